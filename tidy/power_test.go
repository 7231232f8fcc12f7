package tidy_test

import (
	"math/rand"
	"testing"

	"furrow/api"
	"furrow/pmem"
	"furrow/tidy"
	"furrow/volume"
)

// crashes: what a loss of power may leave of the device: the two ends, and some that are drawn.
func crashes(r *rand.Rand, d *pmem.Device, many int) [][]byte {
	list := [][]byte{d.Crash(nil), d.View()}
	choices := make([]int, len(d.Doubts()))
	for len(choices) > 0 && len(list) < many {
		for k := range choices {
			choices[k] = r.Int()
		}
		list = append(list, d.Crash(choices))
	}
	return list
}

// cutAnywhere: a call is cut behind every so many steps. The next mount finds the tree as it was, and All can go on from there; both must be seen, a spread as it was and a smaller one.
func cutAnywhere(t *testing.T, stride int, make func() (*pmem.Device, *volume.Volume), call func(v *volume.Volume) api.Errno) {
	t.Helper()
	r := chance()
	first, v := make()
	was, sum, steps := seenOf(t, v), tidy.Spread(v), first.Steps()
	if e := call(v); e != api.OK {
		t.Fatal("the whole call:", e)
	}
	whole, end := first.Steps()-steps, tidy.Spread(v)
	met := map[int]int{}
	for n := whole % stride; n <= whole; n += stride { // the last one: none is cut
		d, v := make()
		d.Arm(n)
		if e := call(v); (e == api.OK) != (n == whole) || e != api.OK && e != api.ErrDead {
			t.Fatalf("cut behind %d steps of %d: %v", n, whole, e)
		}
		for _, image := range crashes(r, d, 5) {
			m := load(t, image)
			w := mounts(t, m)
			same(t, "24.6", w, was)
			met[tidy.Spread(w)]++
			if _, e := tidy.All(w); e != api.OK || tidy.Spread(w) > sum {
				t.Fatalf("cut behind %d steps of %d: then All = %v, the spread is %d", n, whole, e, tidy.Spread(w))
			}
			same(t, "24.6, and on", w, was)
			meant(t, "24.6, and on", m, w)
		}
	}
	if met[sum] == 0 || met[end] == 0 || sum == end {
		t.Errorf("both ends were to be seen: %v; it was %d, is %d", met, sum, end)
	}
	for n := range met {
		if n > sum || n < end {
			t.Errorf("a spread of %d; it was %d, is %d", n, sum, end)
		}
	}
}

// TestP24_6Cut: File and All, and those behind which logs are collected.
func TestP24_6Cut(t *testing.T) {
	short := func() (*pmem.Device, *volume.Volume) { return turns(t) }
	busy := func() (*pmem.Device, *volume.Volume) {
		d, v := turns(t)
		sized(t, v, 2, 11)
		return d, v
	}
	full := func() (*pmem.Device, *volume.Volume) { return filled(t, true, 7) }
	many := func() (*pmem.Device, *volume.Volume) { return woven(t) }
	one := func(v *volume.Volume) api.Errno {
		_, e := tidy.File(v, 2)
		return e
	}
	each := func(v *volume.Volume) api.Errno {
		_, e := tidy.All(v)
		return e
	}
	cutAnywhere(t, 1, short, one)
	cutAnywhere(t, 1, busy, one)
	cutAnywhere(t, 5, full, one)
	cutAnywhere(t, 1, short, each)
	cutAnywhere(t, 3, busy, each)
	cutAnywhere(t, 29, many, each)
}

// TestP24_6Drawn: All on drawn devices, cut somewhere; and, as T4 has it, again and again.
func TestP24_6Drawn(t *testing.T) {
	r := chance()
	died := 0
	for _, c := range shapes {
		for range max(c.turns/4, 1) {
			d, v := lived(t, r, c.s, c.calls, false)
			was, sum := seenOf(t, v), tidy.Spread(v)
			for range 4 {
				d.Arm(r.Intn(1500))
				if _, e := tidy.All(v); e == api.ErrDead {
					died++
				}
				image := crashes(r, d, 3)
				d = load(t, image[len(image)-1])
				v = mounts(t, d)
				same(t, "24.6", v, was)
				if tidy.Spread(v) > sum {
					t.Fatalf("24.6: the spread is %d, it was %d", tidy.Spread(v), sum)
				}
			}
			if _, e := tidy.All(v); e != api.OK {
				t.Fatal("All", e)
			}
			same(t, "24.6, and on", v, was)
			meant(t, "24.6, and on", d, v)
		}
	}
	if died < 30 {
		t.Errorf("only %d died", died)
	}
}
