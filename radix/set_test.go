package radix_test

import (
	"math"
	"math/rand"
	"slices"
	"testing"

	"furrow/api"
	"furrow/radix"
)

// TestP7_1New: all offsets are holes.
func TestP7_1New(t *testing.T) {
	(&model[int]{}).agree(t, "of ints", radix.New[int]())
	(&model[string]{}).agree(t, "of texts", radix.New[string]())
	(&model[api.Span]{}).agree(t, "of spans", radix.New[api.Span]())
	(&model[*int]{}).agree(t, "of pointers", radix.New[*int]())
	(&model[any]{}).agree(t, "of anything", radix.New[any]())
	(&model[struct{}]{}).agree(t, "of nothing", radix.New[struct{}]())
}

// TestP7_1NothingInCommon: what one tree has the others don't, whichever was there first.
func TestP7_1NothingInCommon(t *testing.T) {
	a, b := radix.New[int](), radix.New[int]()
	ma, mb := &model[int]{}, &model[int]{}
	for _, off := range edges {
		ma.put(t, a, off, off+1)
		mb.put(t, b, 511-off, off+2)
	}
	(&model[int]{}).agree(t, "a third one", radix.New[int]())
	ma.agree(t, "the first", a)
	mb.agree(t, "the second", b)
	mb.cut(0)
	b.Cut(0)
	ma.agree(t, "the first, behind the other's Cut", a)
	mb.agree(t, "the second, cut", b)
}

// TestP7_2EachOffset: every offset can have a value, another one, and be a hole again; no other offset changes.
func TestP7_2EachOffset(t *testing.T) {
	for _, others := range [][]int{nil, {0, 511}, edges, every()} {
		r, m := grown(t, others...)
		for off := range 512 {
			for _, v := range []int{off + 1, -off - 1, 0, 0, math.MaxInt, math.MinInt, 0} {
				m.put(t, r, off, v)
			}
			if off%31 == 0 {
				m.agree(t, "behind Set", r)
			}
			m.put(t, r, off, off+5)
		}
		m.agree(t, "full", r)
		for off := range 512 {
			m.put(t, r, off, 0)
		}
		m.agree(t, "all holes again", r)
	}
}

// TestP7_2NoOtherChanges: of a tree with each number of values, all others are held against the model behind each Set.
func TestP7_2NoOtherChanges(t *testing.T) {
	for i, offs := range some() {
		r, m := grown(t, offs...)
		for _, off := range edges {
			m.put(t, r, off, 77+off)
			m.agree(t, "behind Set", r)
			if i%2 == 0 {
				m.put(t, r, off, 0)
				m.agree(t, "behind a hole", r)
			}
		}
	}
}

// TestP7_2NoOffset: ErrOff, the zero value, and nothing has changed.
func TestP7_2NoOffset(t *testing.T) {
	for _, offs := range [][]int{nil, edges, every()} {
		r, m := grown(t, offs...)
		for _, off := range wild {
			m.put(t, r, off, 9)
			m.put(t, r, off, 0)
			m.agree(t, "behind ErrOff", r)
		}
	}
	s := radix.New[string]()
	if was, e := s.Set(512, "x"); was != "" || e != api.ErrOff || s.Len() != 0 {
		t.Errorf("Set(512) of texts = %q, %d", was, e)
	}
}

// TestP7_2EqualToZero: what equals the zero value by == is no value: minus zero makes a hole, and what is told of it is 0.
func TestP7_2EqualToZero(t *testing.T) {
	minus := math.Copysign(0, -1)
	r := radix.New[float64]()
	r.Set(3, 1.5)
	r.Set(4, 2.5)
	if was, e := r.Set(3, minus); was != 1.5 || e != api.OK || r.Len() != 1 {
		t.Errorf("Set(3, -0.0) = %v, %d, Len %d", was, e, r.Len())
	}
	if was, e := r.Set(9, minus); was != 0 || e != api.OK || r.Len() != 1 {
		t.Errorf("Set(9, -0.0) = %v, %d, Len %d", was, e, r.Len())
	}
	for _, off := range []int{3, 9} {
		if v := r.Get(off); v != 0 || math.Signbit(v) {
			t.Errorf("Get(%d) = %v", off, v)
		}
		if was, _ := r.Set(off, 1); was != 0 || math.Signbit(was) {
			t.Errorf("Set(%d, 1) = %v", off, was)
		}
		r.Set(off, minus)
	}
	if l := walk(r, 0, -1); !slices.Equal(l, []pair[float64]{{4, 2.5}}) {
		t.Errorf("From(0) = %v", l)
	}
	if l := r.Cut(0); !slices.Equal(l, []float64{2.5}) {
		t.Errorf("Cut(0) = %v", l)
	}

	type point struct{ x, y float64 }
	p := radix.New[point]()
	p.Set(1, point{minus, 0})
	p.Set(2, point{minus, 1})
	if p.Len() != 1 || math.Signbit(p.Get(1).x) || !math.Signbit(p.Get(2).x) {
		t.Errorf("points: Len %d, %v, %v", p.Len(), p.Get(1), p.Get(2))
	}
}

// TestP7_2NotEqualToItself: a NaN is a value, as it isn't the zero value.
func TestP7_2NotEqualToItself(t *testing.T) {
	r := radix.New[float64]()
	r.Set(8, math.NaN())
	c := r.Copy()
	if was, _ := r.Set(8, math.NaN()); !math.IsNaN(was) || r.Len() != 1 || !math.IsNaN(r.Get(8)) {
		t.Errorf("Set(8, NaN) = %v, Len %d, Get %v", was, r.Len(), r.Get(8))
	}
	if was, _ := r.Set(8, 0); !math.IsNaN(was) || r.Len() != 0 {
		t.Errorf("Set(8, 0) = %v, Len %d", was, r.Len())
	}
	if l := c.Cut(8); len(l) != 1 || !math.IsNaN(l[0]) || c.Len() != 0 {
		t.Errorf("the copy's Cut(8) = %v, Len %d", l, c.Len())
	}
}

// TestP7_2OtherValues: interfaces, pointers, arrays and what is always zero.
func TestP7_2OtherValues(t *testing.T) {
	a, ma := radix.New[any](), &model[any]{}
	for i, v := range []any{0, "", 0.0, nil, 5, "x", api.Span{}, [2]int{}, (*int)(nil), nil} {
		ma.put(t, a, i*51, v)
		ma.agree(t, "of anything", a)
	}
	if a.Len() != 8 {
		t.Errorf("Len of anything = %d: what is in an interface is a value, be it 0", a.Len())
	}
	one, other := new(int), new(int)
	p, mp := radix.New[*int](), &model[*int]{}
	for _, v := range []*int{one, other, nil, one} {
		mp.put(t, p, 100, v)
		mp.agree(t, "of pointers", p)
	}
	g, mg := radix.New[[3]byte](), &model[[3]byte]{}
	for _, v := range [][3]byte{{0, 0, 1}, {}, {1}} {
		mg.put(t, g, 200, v)
		mg.agree(t, "of arrays", g)
	}
	n := radix.New[struct{}]()
	if _, e := n.Set(4, struct{}{}); e != api.OK || n.Len() != 0 || len(n.Cut(0)) != 0 {
		t.Errorf("of nothing: %d, Len %d", e, n.Len())
	}
}

// TestP7_3NoOffset: the zero value, of whatever type.
func TestP7_3NoOffset(t *testing.T) {
	r, _ := grown(t, every()...)
	s := radix.New[string]()
	s.Set(0, "a")
	s.Set(511, "b")
	for _, off := range wild {
		if v := r.Get(off); v != 0 {
			t.Errorf("Get(%d) = %d", off, v)
		}
		if v := s.Get(off); v != "" {
			t.Errorf("Get(%d) = %q", off, v)
		}
	}
}

// TestP7_5Len: it goes up by one with each hole that is filled, and down with each that comes, and not otherwise.
func TestP7_5Len(t *testing.T) {
	r := radix.New[int]()
	want := func(what string, n int) {
		t.Helper()
		if r.Len() != n {
			t.Fatalf("%s: Len() = %d, want %d", what, r.Len(), n)
		}
	}
	for i, off := range drawn(3, 512) {
		r.Set(off, 1)
		want("a hole filled", i+1)
		r.Set(off, 2)
		want("another value", i+1)
		r.Set(-1-off, 3)
		r.Set(512+off, 3)
		want("no offset", i+1)
	}
	for i, off := range drawn(4, 512) {
		r.Set(off, 0)
		want("a hole made", 511-i)
		r.Set(off, 0)
		want("a hole left", 511-i)
	}
}

// TestP7_2Drawn: long lines of calls, drawn, against the model.
func TestP7_2Drawn(t *testing.T) {
	for seed := range int64(6) {
		draw := rand.New(rand.NewSource(seed))
		r, m := radix.New[string](), &model[string]{}
		texts := []string{"", "", "a", "b", "\x00", "a long text that is no small one"}
		for step := range 3000 {
			off := draw.Intn(530) - 9
			switch k := draw.Intn(100); {
			case k < 80:
				m.put(t, r, off, texts[draw.Intn(len(texts))])
			case k < 82:
				if got, want := r.Cut(off), m.cut(off); !slices.Equal(got, want) {
					t.Fatalf("Cut(%d) = %v, want %v", off, got, want)
				}
			case k < 85:
				r = r.Copy()
			default:
				most := draw.Intn(4)
				want := m.from(off)
				if most > 0 && len(want) > most {
					want = want[:most]
				}
				if got := walk(r, off, most); !slices.Equal(got, want) {
					t.Fatalf("From(%d), stopped behind %d = %v, want %v", off, most, got, want)
				}
			}
			if step%50 == 0 {
				m.agree(t, "amid a drawn line", r)
			}
		}
	}
}
