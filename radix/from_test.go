package radix_test

import (
	"iter"
	"slices"
	"testing"

	"furrow/radix"
)

// TestP7_6EachFrom: from every number on.
func TestP7_6EachFrom(t *testing.T) {
	for _, offs := range some() {
		r, m := grown(t, offs...)
		for from := -3; from <= 515; from++ {
			if got, want := walk(r, from, -1), m.from(from); !slices.Equal(got, want) {
				t.Fatalf("From(%d) = %v, want %v", from, got, want)
			}
		}
		for _, from := range wild {
			if got, want := walk(r, from, -1), m.from(from); !slices.Equal(got, want) {
				t.Fatalf("From(%d) = %v, want %v", from, got, want)
			}
		}
		m.agree(t, "gone through", r)
	}
}

// TestP7_6Stopped: a function that answers false is called no more, wherever it does.
func TestP7_6Stopped(t *testing.T) {
	for _, offs := range some() {
		r, m := grown(t, offs...)
		for _, from := range []int{-1, 0, 1, 8, 60, 64, 300, 511} {
			want := m.from(from)
			for most := 1; most <= len(want)+1; most++ {
				calls := 0
				r.From(from)(func(off, v int) bool {
					if want[calls] != (pair[int]{off, v}) {
						t.Fatalf("From(%d): call %d is (%d, %d), want %v", from, calls, off, v, want[calls])
					}
					calls++
					return calls < most
				})
				if calls != min(most, len(want)) {
					t.Fatalf("From(%d), false at call %d: %d calls", from, most, calls)
				}
			}
		}
	}
}

// TestP7_6AgainAndAgain: one iterator tells each time what the tree has when the loop begins, not when it was made.
func TestP7_6AgainAndAgain(t *testing.T) {
	r, m := radix.New[int](), &model[int]{}
	all, late := r.From(0), r.From(100)
	for i, off := range drawn(9, 60) {
		m.put(t, r, off, i+1)
		if i%5 == 4 {
			cut := 512 - i
			r.Cut(cut)
			m.cut(cut)
		}
		for from, seq := range map[int]iter.Seq2[int, int]{0: all, 100: late} {
			for range 2 {
				var got []pair[int]
				for o, v := range seq {
					got = append(got, pair[int]{o, v})
				}
				if want := m.from(from); !slices.Equal(got, want) {
					t.Fatalf("From(%d), step %d = %v, want %v", from, i, got, want)
				}
			}
			for range seq { // one that is stopped at once is begun anew by the next loop
				break
			}
		}
	}
}

// TestP7_6Changed: what the body does to the tree isn't seen by its loop, but by Get at once, by the loops inside and by the next one.
func TestP7_6Changed(t *testing.T) {
	change := map[string]func(r *radix.Tree[int], m *model[int], at int){
		"cuts all":         func(r *radix.Tree[int], m *model[int], at int) { r.Cut(0); m.cut(0) },
		"cuts behind":      func(r *radix.Tree[int], m *model[int], at int) { r.Cut(at + 1); m.cut(at + 1) },
		"cuts from it":     func(r *radix.Tree[int], m *model[int], at int) { r.Cut(at); m.cut(at) },
		"takes it away":    func(r *radix.Tree[int], m *model[int], at int) { r.Set(at, 0); m.set(at, 0) },
		"takes the next":   func(r *radix.Tree[int], m *model[int], at int) { r.Set(at+1, 0); m.set(at+1, 0) },
		"sets the next":    func(r *radix.Tree[int], m *model[int], at int) { r.Set(at+1, -at-1); m.set(at+1, -at-1) },
		"sets the last":    func(r *radix.Tree[int], m *model[int], at int) { r.Set(511, -at-1); m.set(511, -at-1) },
		"sets the one ago": func(r *radix.Tree[int], m *model[int], at int) { r.Set(at-1, -at-1); m.set(at-1, -at-1) },
		"sets far on":      func(r *radix.Tree[int], m *model[int], at int) { r.Set(at^256, -at-1); m.set(at^256, -at-1) },
	}
	for what, do := range change {
		for _, offs := range [][]int{{0}, {511}, {5, 7, 511}, {0, 1, 2, 3, 4, 5, 6, 7, 8}, edges, drawn(1, 40), every()} {
			r, m := grown(t, offs...)
			began := m.from(0)
			var got []pair[int]
			for off, v := range r.From(0) {
				got = append(got, pair[int]{off, v})
				do(r, m, off)
				if len(offs) < 512 || off%64 == 63 {
					m.agree(t, what, r)
				}
			}
			if !slices.Equal(got, began) {
				t.Fatalf("a body that %s: %v, want %v", what, got, began)
			}
			m.agree(t, what, r)
		}
	}
}

// TestP7_6Inside: loops within loops over one tree, each with its own beginning and end.
func TestP7_6Inside(t *testing.T) {
	r, m := grown(t, edges...)
	all := m.from(0)
	seq := r.From(0)
	outer := 0
	for off, v := range seq {
		if all[outer] != (pair[int]{off, v}) {
			t.Fatalf("outer: (%d, %d), want %v", off, v, all[outer])
		}
		outer++
		if got := walk(r, off, -1); !slices.Equal(got, m.from(off)) {
			t.Fatalf("inner From(%d) = %v", off, got)
		}
		inner := 0
		for o, w := range seq {
			if all[inner] != (pair[int]{o, w}) {
				t.Fatalf("inner: (%d, %d), want %v", o, w, all[inner])
			}
			inner++
			if inner == outer {
				break
			}
		}
	}
	if outer != len(all) {
		t.Errorf("outer: %d, want %d", outer, len(all))
	}
}

// TestP7_6InsideChanged: an inner loop begins with what the outer one's body has done, and each goes on as it began.
func TestP7_6InsideChanged(t *testing.T) {
	r, _ := grown(t, 1, 2, 3)
	var seen []int
	for off := range r.From(0) {
		seen = append(seen, off)
		r.Set(off+100, 1)
		for o := range r.From(100) {
			seen = append(seen, o)
			r.Cut(102)
		}
	}
	if want := []int{1, 101, 2, 101, 102, 3, 101, 103}; !slices.Equal(seen, want) {
		t.Errorf("seen %v, want %v", seen, want)
	}
	if r.Len() != 4 {
		t.Errorf("Len() = %d, want 4", r.Len())
	}
}

// TestP7_6Pulled: a going through begins with its first step, and the tree may be changed between two steps.
func TestP7_6Pulled(t *testing.T) {
	r, m := grown(t, 4, 70, 300)
	next, stop := iter.Pull2(r.From(0))
	m.put(t, r, 5, 55)
	want := m.from(0)
	for i, w := range want {
		off, v, ok := next()
		if !ok || w != (pair[int]{off, v}) {
			t.Fatalf("step %d: %d, %d, %v, want %v", i, off, v, ok, w)
		}
		m.put(t, r, 6+i, 1)
		r.Cut(300)
		m.cut(300)
	}
	if _, _, ok := next(); ok {
		t.Error("more than there were")
	}
	stop()
	m.agree(t, "pulled", r)
}

// TestP7_6LeavesNothing: a loop that is left by a panic of its body leaves the tree as whole as one that ends.
func TestP7_6LeavesNothing(t *testing.T) {
	r, m := grown(t, edges...)
	for _, at := range edges {
		func() {
			defer func() {
				if recover() == nil {
					t.Errorf("the body's panic at %d was lost", at)
				}
			}()
			for off := range r.From(0) {
				if off == at {
					panic("the body gives up")
				}
			}
		}()
		m.agree(t, "behind a panic", r)
		m.put(t, r, at, at+1)
	}
	m.agree(t, "behind all panics", r)
}
