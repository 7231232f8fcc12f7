package radix_test

import (
	"math"
	"slices"
	"testing"

	"furrow/api"
	"furrow/radix"
)

// set: a step of the examples.
func set(t *testing.T, r *radix.Tree[int], off, v, was int, e api.Errno) {
	t.Helper()
	if w, f := r.Set(off, v); w != was || f != e {
		t.Errorf("Set(%d, %d) = %d, %d, want %d, %d", off, v, w, f, was, e)
	}
}

func has(t *testing.T, r *radix.Tree[int], n int, runs []api.Run) {
	t.Helper()
	if r.Len() != n {
		t.Errorf("Len() = %d, want %d", r.Len(), n)
	}
	sameRuns(t, "Runs", radix.Runs(r), runs)
}

// five: the tree as it is behind example 5.
func five(t *testing.T) *radix.Tree[int] {
	t.Helper()
	return load(t, rn(5, 40, 1, 7, 42, 1, 511, 43, 1))
}

// TestExamples1To5: one tree, from its beginning on.
func TestExamples1To5(t *testing.T) {
	r := radix.New[int]()
	if r.Get(0) != 0 || r.Get(-1) != 0 || r.Get(512) != 0 {
		t.Errorf("example 1: %d, %d, %d", r.Get(0), r.Get(-1), r.Get(512))
	}
	has(t, r, 0, nil)

	set(t, r, 5, 40, 0, api.OK)
	set(t, r, 6, 41, 0, api.OK)
	set(t, r, 7, 50, 0, api.OK)
	has(t, r, 3, rn(5, 40, 2, 7, 50, 1))

	set(t, r, 7, 42, 50, api.OK)
	has(t, r, 3, rn(5, 40, 3))

	set(t, r, 511, 43, 0, api.OK)
	set(t, r, 512, 1, 0, api.ErrOff)
	set(t, r, -1, 1, 0, api.ErrOff)
	has(t, r, 4, rn(5, 40, 3, 511, 43, 1))

	set(t, r, 6, 0, 41, api.OK)
	has(t, r, 3, rn(5, 40, 1, 7, 42, 1, 511, 43, 1))
	set(t, r, 6, 0, 0, api.OK)
	has(t, r, 3, rn(5, 40, 1, 7, 42, 1, 511, 43, 1))
}

func TestExample6(t *testing.T) {
	r := five(t)
	all := []pair[int]{{5, 40}, {7, 42}, {511, 43}}
	for _, c := range []struct {
		off  int
		want []pair[int]
	}{{6, all[1:]}, {-9, all}, {512, nil}} {
		if l := walk(r, c.off, -1); !slices.Equal(l, c.want) {
			t.Errorf("From(%d) = %v, want %v", c.off, l, c.want)
		}
	}
	calls := 0
	r.From(0)(func(off, v int) bool {
		calls++
		return off != 5 || v != 40
	})
	if calls != 1 {
		t.Errorf("false at (5, 40): %d calls", calls)
	}
	c := r.Copy()
	var seen []pair[int]
	for off, v := range c.From(0) {
		c.Cut(0)
		seen = append(seen, pair[int]{off, v})
	}
	if !slices.Equal(seen, all) || c.Len() != 0 || r.Len() != 3 {
		t.Errorf("a body that cuts: %v, Len %d and %d", seen, c.Len(), r.Len())
	}
}

func TestExample7(t *testing.T) {
	r := five(t)
	c := r.Copy()
	if l := c.Cut(7); !slices.Equal(l, []int{42, 43}) || c.Len() != 1 || r.Len() != 3 {
		t.Errorf("Cut(7) = %v, Len %d and %d", l, c.Len(), r.Len())
	}
	if l := c.Cut(512); len(l) != 0 {
		t.Errorf("Cut(512) = %v", l)
	}
	if l := c.Cut(-1); !slices.Equal(l, []int{40}) {
		t.Errorf("Cut(-1) = %v", l)
	}
}

func TestExample8(t *testing.T) {
	r := load(t, rn(0, 9, 2, 1, 20, 1))
	if r.Get(0) != 9 || r.Get(1) != 20 {
		t.Errorf("%d, %d", r.Get(0), r.Get(1))
	}
	has(t, r, 2, rn(0, 9, 1, 1, 20, 1))
	has(t, load(t, rn(0, 9, 1, 1, 10, 1)), 2, rn(0, 9, 2))
	has(t, load(t, nil), 0, nil)
}

func TestExample9(t *testing.T) {
	for _, run := range rn(0, 9, 0, 0, 0, 1, -1, 9, 1, 511, 9, 2, 0, 9, math.MaxInt) {
		if r, e := radix.Load([]api.Run{run}); r != nil || e != api.ErrOff {
			t.Errorf("Load([%v]) = %v, %d", run, r, e)
		}
	}
}

func TestExample10(t *testing.T) {
	r := radix.New[string]()
	if was, e := r.Set(3, "x"); was != "" || e != api.OK {
		t.Errorf("Set(3, x) = %q, %d", was, e)
	}
	if was, e := r.Set(3, ""); was != "x" || e != api.OK || r.Len() != 0 {
		t.Errorf("Set(3, nothing) = %q, %d, Len %d", was, e, r.Len())
	}
}
