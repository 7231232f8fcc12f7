package radix_test

import (
	"math"
	"runtime"
	"slices"
	"testing"
	"weak"

	"furrow/api"
	"furrow/radix"
)

// spoil: writes over a list, over its spare room too.
func spoil[T any](l []T, with T) {
	l = l[:cap(l)]
	for i := range l {
		l[i] = with
	}
}

// TestP7_10CutIsNewMemory, TestP7_10RunsAreNewMemory: whoever writes into an answer, or appends to it, changes no tree and no other answer (R3).
func TestP7_10CutIsNewMemory(t *testing.T) {
	for _, from := range []int{0, 3, 64, 200} {
		r, m := grown(t, edges...)
		c := r.Copy()
		a, b := r.Cut(from), c.Cut(from)
		want := m.cut(from)
		spoil(a, -7)
		if !slices.Equal(b, want) {
			t.Errorf("another answer: %v, want %v", b, want)
		}
		m.agree(t, "the tree", r)
		m.agree(t, "the copy", c)
		m.put(t, r, 511, 6)
		if l := r.Cut(300); !slices.Equal(l, m.cut(300)) {
			t.Errorf("a later answer: %v", l)
		}
	}
}

func TestP7_10RunsAreNewMemory(t *testing.T) {
	r, m := grown(t, edges...)
	want := slices.Clone(radix.Runs(r))
	for range 3 {
		a, b := radix.Runs(r), radix.Runs(r)
		spoil(a, api.Run{Off: -7})
		sameRuns(t, "another answer", b, want)
		sameRuns(t, "a later answer", radix.Runs(r), want)
		m.agree(t, "the tree", r)
	}
}

// TestP7_10ListsAreNotKept: what Load is handed isn't changed, spare room included, nor kept.
func TestP7_10ListsAreNotKept(t *testing.T) {
	for _, runs := range [][]api.Run{nil, rn(5, 40, 3), rn(9, 1, 1, 3, 7, 4, 5, 2, 1), rn(5, 40, 3, 0, 0, 1), rn(5, 40, 3, 4, 9, 600)} {
		room := append(slices.Clone(runs), rn(100, 1, 1, 200, 1, 2)...)
		was := slices.Clone(room)
		r, e := radix.Load(room[:len(runs)])
		sameRuns(t, "what was handed in", room, was)
		if e != api.OK {
			continue
		}
		want := radix.Runs(r)
		spoil(room, api.Run{Off: 1, Page: 1, Count: 1})
		sameRuns(t, "the tree", radix.Runs(r), want)
	}
}

// TestP7_10NoPanic: every call with wild numbers, on an empty tree, on one with values and on a full one.
func TestP7_10NoPanic(t *testing.T) {
	for _, offs := range [][]int{nil, edges, every()} {
		for _, n := range append(slices.Clone(wild), edges...) {
			r, m := grown(t, offs...)
			m.put(t, r, n, n)
			r.Get(n)
			for range r.From(n) {
				break
			}
			walk(r, n, -1)
			r.Copy().Cut(n)
			radix.Runs(r)
			m.agree(t, "behind wild calls", r)
			for _, k := range wild {
				radix.Load([]api.Run{{Off: n, Page: k, Count: 1}})
				radix.Load([]api.Run{{Off: k, Page: 1, Count: n}})
				radix.Load([]api.Run{{Off: 0, Page: n, Count: k}})
			}
		}
	}
}

// TestP7_10ValuesThatCantBeCompared: of them nothing else is promised than that no call panics.
func TestP7_10ValuesThatCantBeCompared(t *testing.T) {
	r := radix.New[any]()
	for _, off := range []int{3, 4, 511} {
		r.Set(off, []int{1})
		r.Set(off, []int{2})
	}
	c := r.Copy()
	if r.Len() != 3 || len(c.Cut(4)) != 2 || c.Len() != 1 {
		t.Errorf("lists as values: Len %d and %d", r.Len(), c.Len())
	}
}

// TestHolesKeepNothing: of what an offset had a tree keeps nothing once it has another value, or is a hole.
func TestHolesKeepNothing(t *testing.T) {
	type thing struct{ n [4]int }
	r := radix.New[*thing]()
	var gone []weak.Pointer[thing]
	give := func(off int) {
		v := &thing{[4]int{off}}
		gone = append(gone, weak.Make(v))
		r.Set(off, v)
	}
	for _, off := range []int{0, 1, 9, 64, 70, 300, 511} {
		give(off)
	}
	stay := &thing{}
	r.Set(2, stay)
	for range r.From(0) {
		break
	}
	r.Set(0, nil)
	r.Set(1, stay)
	r.Set(9, nil)
	r.Cut(10)
	runtime.GC()
	for i, p := range gone {
		if p.Value() != nil {
			t.Errorf("value %d is kept", i)
		}
	}
	if r.Len() != 2 || r.Get(1) != stay || r.Get(2) != stay {
		t.Errorf("Len() = %d", r.Len())
	}
	runtime.KeepAlive(r)
}

// TestTwoTreesAtOnce: trees of several goroutines have nothing to do with one another (R4); and one tree may be read by several.
func TestTwoTreesAtOnce(t *testing.T) {
	shared, m := grown(t, edges...)
	done := make(chan []api.Run)
	for k := range 4 {
		go func() {
			r := radix.New[int]()
			for i := range 512 {
				r.Set(i, 1+k*1000+i)
			}
			for range shared.From(0) {
			}
			shared.Copy().Cut(k)
			done <- radix.Runs(r)
		}()
	}
	sum := 0
	for range 4 {
		l := <-done
		if len(l) != 1 || l[0].Count != 512 {
			t.Errorf("Runs = %v", l)
			continue
		}
		sum += l[0].Page
	}
	if sum != 4+6000 {
		t.Errorf("pages' sum %d", sum)
	}
	m.agree(t, "the tree that all read", shared)
}

// TestP7_8WildValues: sums in Runs and Load wrap and don't panic.
func TestP7_8WildValues(t *testing.T) {
	vals := []int{math.MaxInt, math.MinInt, math.MaxInt, 1, -1, math.MinInt, math.MinInt + 1, math.MaxInt - 1, math.MaxInt, math.MinInt}
	r, m := radix.New[int](), &model[int]{}
	for i, v := range vals {
		m.put(t, r, 60+i, v)
	}
	told(t, m, radix.Runs(r))
}
