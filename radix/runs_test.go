package radix_test

import (
	"math"
	"math/rand"
	"testing"

	"furrow/api"
	"furrow/radix"
)

// told: runs by P7.8's words, held against the model: each value in just one run, and no run goes on in the next.
func told(t *testing.T, m *model[int], runs []api.Run) {
	t.Helper()
	var seen [512]int
	for k, r := range runs {
		if r.Count < 1 {
			t.Fatalf("a run without offsets: %v", runs)
		}
		for i := range r.Count {
			off := r.Off + i
			if off < 0 || off > 511 || m[off] == 0 || m[off] != r.Page+i {
				t.Fatalf("run %d of %v: offset %d isn't so", k, runs, off)
			}
			seen[off]++
		}
		if k == 0 {
			continue
		}
		b := runs[k-1]
		if r.Off <= b.Off || r.Off == b.Off+b.Count && r.Page == b.Page+b.Count {
			t.Fatalf("runs %d and %d of %v don't rise, or are one", k-1, k, runs)
		}
	}
	for off, v := range m {
		if n := seen[off]; n > 1 || n == 1 != (v != 0) {
			t.Fatalf("offset %d, value %d, stands in %d runs of %v", off, v, n, runs)
		}
	}
}

// TestP7_8Small: every tree of five offsets with values of three pages in a row, at the ends of nodes of each level.
func TestP7_8Small(t *testing.T) {
	for _, first := range []int{0, 3, 5, 61, 254, 507} {
		for n := range 4 * 4 * 4 * 4 * 4 {
			r, m := radix.New[int](), &model[int]{}
			for i, k := 0, n; i < 5; i, k = i+1, k/4 {
				if k%4 > 0 {
					m.put(t, r, first+i, 20+k%4)
				}
			}
			told(t, m, radix.Runs(r))
			m.agree(t, "behind Runs", r)
		}
	}
}

// TestP7_8Drawn: long trees in which runs are long and break by a hole, by a value, or by both.
func TestP7_8Drawn(t *testing.T) {
	draw := rand.New(rand.NewSource(2))
	for range 200 {
		r, m := radix.New[int](), &model[int]{}
		v := draw.Intn(9) - 4
		for off := range 512 {
			switch draw.Intn(12) {
			case 0:
				v = draw.Intn(2000) - 1000
			case 1:
				m.put(t, r, off, 0)
				continue
			case 2:
				v--
			default:
				v++
			}
			m.put(t, r, off, v)
		}
		told(t, m, radix.Runs(r))
	}
}

// TestP7_8Edges: one run of all; runs that end at a hole though the pages go on; values below 0 up to the hole at 0; sums that wrap.
func TestP7_8Edges(t *testing.T) {
	of := func(vals map[int]int) []api.Run {
		r := radix.New[int]()
		for off, v := range vals {
			r.Set(off, v)
		}
		return radix.Runs(r)
	}
	whole := map[int]int{}
	for i := range 512 {
		whole[i] = 100 + i
	}
	for _, c := range []struct {
		what string
		vals map[int]int
		want []api.Run
	}{
		{"no values", nil, nil},
		{"all in one", whole, rn(0, 100, 512)},
		{"a hole between", map[int]int{3: 9, 5: 11}, rn(3, 9, 1, 5, 11, 1)},
		{"a hole between, pages in a row", map[int]int{3: 9, 5: 10}, rn(3, 9, 1, 5, 10, 1)},
		{"falling", map[int]int{3: 9, 4: 8, 5: 7}, rn(3, 9, 1, 4, 8, 1, 5, 7, 1)},
		{"alike", map[int]int{3: 9, 4: 9}, rn(3, 9, 1, 4, 9, 1)},
		{"over nodes", map[int]int{7: 9, 8: 10, 63: 20, 64: 21, 511: 30, 510: 29}, rn(7, 9, 2, 63, 20, 2, 510, 29, 2)},
		{"below 0", map[int]int{0: -3, 1: -2, 2: -1, 3: 0, 4: 1}, rn(0, -3, 3, 4, 1, 1)},
		{"wrapping", map[int]int{6: math.MaxInt - 1, 7: math.MaxInt, 8: math.MinInt, 9: math.MinInt + 1}, rn(6, math.MaxInt-1, 4)},
		{"not wrapping backwards", map[int]int{6: math.MinInt, 7: math.MaxInt}, rn(6, math.MinInt, 1, 7, math.MaxInt, 1)},
	} {
		sameRuns(t, c.what, of(c.vals), c.want)
	}
}

// TestP7_9InTurn: each run is set behind those ahead of it in the list, whatever their order: the later one holds.
func TestP7_9InTurn(t *testing.T) {
	draw := rand.New(rand.NewSource(5))
	for range 300 {
		var runs []api.Run
		m := &model[int]{}
		for range draw.Intn(12) {
			off := draw.Intn(512)
			r := api.Run{Off: off, Page: 1 + draw.Intn(2000), Count: 1 + draw.Intn(512-off)}
			if draw.Intn(3) > 0 {
				r.Count = 1 + draw.Intn(min(9, 512-off))
			}
			for i := range r.Count {
				m[r.Off+i] = r.Page + i
			}
			runs = append(runs, r)
		}
		r := load(t, runs)
		m.agree(t, "loaded", r)
		told(t, m, radix.Runs(r))
	}
}

// TestP7_9Overlap: two runs that overlap in every way.
func TestP7_9Overlap(t *testing.T) {
	for a := 0; a < 6; a++ {
		for b := a + 1; b <= 6; b++ {
			for c := 0; c < 6; c++ {
				for d := c + 1; d <= 6; d++ {
					m := &model[int]{}
					for i := a; i < b; i++ {
						m[60+i] = 500 + i - a
					}
					for i := c; i < d; i++ {
						m[60+i] = 503 + i - c
					}
					r := load(t, rn(60+a, 500, b-a, 60+c, 503, d-c))
					m.agree(t, "overlapped", r)
					told(t, m, radix.Runs(r))
				}
			}
		}
	}
}

// TestP7_9Refused: each number one beyond its edge, and far beyond, alone and behind or ahead of good runs.
func TestP7_9Refused(t *testing.T) {
	bad := rn(
		0, 9, 0, 0, 9, -1, 0, 9, math.MinInt, 511, 9, 0,
		0, 0, 1, 0, -1, 1, 0, math.MinInt, 1, 511, 0, 1,
		-1, 9, 1, -1, 9, 2, -512, 9, 512, math.MinInt, 9, 1, math.MinInt, 9, math.MaxInt,
		0, 9, 513, 1, 9, 512, 511, 9, 2, 512, 9, 1, 513, 9, 1, 512, 9, 0,
		math.MaxInt, 9, 1, math.MaxInt, 9, math.MaxInt, 1, 9, math.MaxInt, 511, 9, math.MaxInt, 0, 9, math.MaxInt,
		1<<32, 9, 1, 0, 9, 1<<32+1, 0, -1<<32+9, 1,
		math.MinInt, math.MinInt, math.MinInt, 0, 0, 0,
	)
	good := rn(0, 1, 512, 3, 7, 2)
	for _, b := range bad {
		for _, runs := range [][]api.Run{{b}, {good[0], b}, {b, good[0]}, {good[0], b, good[1]}, {b, b}} {
			if r, e := radix.Load(runs); r != nil || e != api.ErrOff {
				t.Errorf("Load(%v) = %v, %d, want nil, ErrOff", runs, r, e)
			}
		}
	}
}

// TestP7_9Edges: what stands just at the edges is taken.
func TestP7_9Edges(t *testing.T) {
	for _, runs := range [][]api.Run{rn(0, 1, 1), rn(0, 1, 512), rn(511, 1, 1), rn(1, 1, 511), rn(510, 1, 2), rn(0, math.MaxInt, 1), rn(511, math.MaxInt, 1)} {
		sameRuns(t, "Runs(Load)", radix.Runs(load(t, runs)), runs)
	}
	for _, none := range [][]api.Run{nil, {}} {
		(&model[int]{}).agree(t, "no runs", load(t, none))
	}
	wraps := rn(3, math.MaxInt-1, 5)
	r := load(t, wraps)
	for i, v := range []int{math.MaxInt - 1, math.MaxInt, math.MinInt, math.MinInt + 1, math.MinInt + 2} {
		if got := r.Get(3 + i); got != v {
			t.Errorf("a sum that wraps: Get(%d) = %d, want %d", 3+i, got, v)
		}
	}
	sameRuns(t, "Runs(Load), wrapping", radix.Runs(r), wraps)
}

// TestP7_9ThereAndBack: Runs(Load(l)) is l of what Runs told; Load(Runs(t)) has t's values.
func TestP7_9ThereAndBack(t *testing.T) {
	draw := rand.New(rand.NewSource(8))
	for range 150 {
		r, m := radix.New[int](), &model[int]{}
		v := 1
		for off := range 512 {
			v++
			if draw.Intn(7) == 0 {
				v = 1 + draw.Intn(1023)
			}
			if draw.Intn(5) > 0 {
				m.put(t, r, off, v)
			}
		}
		l := radix.Runs(r)
		again := load(t, l)
		m.agree(t, "Load(Runs)", again)
		sameRuns(t, "Runs(Load(Runs))", radix.Runs(again), l)
	}
}
