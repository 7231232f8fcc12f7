package extents_test

import (
	"math"
	"math/rand"
	"slices"
	"testing"

	"furrow/api"
	"furrow/extents"
	"furrow/layout"
)

func noPool(t *testing.T, s api.Shape, free []api.Span, want api.Errno) {
	t.Helper()
	if p, e := extents.NewPool(s, free); p != nil || e != want {
		t.Errorf("NewPool(%v, %v): %v, %d, want nil, %d", s, free, p != nil, e, want)
	}
}

func TestP5_5ShapesThatAreGood(t *testing.T) {
	for _, s := range allShapes([]int{24, 25, 64, 1023, 1024}, []int{8, 16, 96, 248, 256}, []int{1, 2, 7, 8}) {
		all := sp(s.Data, s.Pages-s.Data)
		p := pool(t, s, all)
		newModel(s, all).agree(t, "all free", p)
		newModel(s, nil).agree(t, "none free", pool(t, s, nil))
		newModel(s, nil).agree(t, "none free, of an empty list", pool(t, s, []api.Span{}))
	}
}

func TestP5_5ShapesThatAreNone(t *testing.T) {
	for _, s := range shapes {
		numbers := func(s *api.Shape) []*int { return []*int{&s.Pages, &s.Inodes, &s.Cores, &s.Data} }
		for k := range 4 {
			for _, n := range append([]int{0, 1, s.Data - 1, s.Data + 1, 9, 12, 23, 264}, wild...) {
				other := s
				*numbers(&other)[k] = n
				fits, _ := layout.Fit(api.Super{Pages: other.Pages, Inodes: other.Inodes, Cores: other.Cores})
				if other == fits {
					continue
				}
				noPool(t, other, nil, api.ErrShape)
				noPool(t, other, sp(s.Data, 1), api.ErrShape)
				noPool(t, other, sp(-1, -1), api.ErrShape)
			}
		}
	}
	noPool(t, api.Shape{}, nil, api.ErrShape)
}

func TestP5_5SpansThatAreGood(t *testing.T) {
	for seed := range int64(60) {
		r := rand.New(rand.NewSource(seed))
		for _, s := range shapes {
			free := someFree(r, s, []float64{0.1, 0.5, 0.9, 1}[r.Intn(4)])
			newModel(s, free).agree(t, "some free", pool(t, s, free))
		}
	}
	for _, c := range []struct{ free, spans []api.Span }{
		{sp(10, 2, 12, 1), sp(10, 3)},
		{sp(5, 1, 6, 1, 7, 1), sp(5, 3)},
		{sp(5, 1), sp(5, 1)}, {sp(23, 1), sp(23, 1)}, {sp(5, 1, 23, 1), sp(5, 1, 23, 1)},
		{sp(5, 18, 23, 1), sp(5, 19)}, {sp(5, 19), sp(5, 19)},
		{sp(10, 1, 12, 1), sp(10, 1, 12, 1)},
	} {
		sameSpans(t, "Spans", pool(t, three, c.free).Spans(), c.spans)
	}
}

func TestP5_5SpansThatAreNone(t *testing.T) {
	bad := [][]api.Span{
		sp(5, 0), sp(5, -1), sp(5, math.MinInt), sp(23, 0), sp(0, 0),
		sp(4, 1), sp(4, 2), sp(0, 24), sp(0, 1), sp(-1, 1), sp(-1, 7), sp(24, 1), sp(23, 2), sp(5, 20), sp(6, 19), sp(1000, 1),
		sp(5, math.MaxInt), sp(6, math.MaxInt), sp(5, math.MaxInt-4), sp(5, math.MaxInt-5), sp(23, math.MaxInt-22), sp(math.MaxInt, 1), sp(math.MaxInt, math.MaxInt), sp(math.MaxInt, math.MinInt), sp(math.MinInt, math.MaxInt), sp(math.MinInt, math.MinInt), sp(math.MinInt+5, math.MinInt), sp(5, 1<<32+1), sp(1<<32+5, 1), sp(math.MaxInt-3, 10),
		sp(6, 2, 5, 1), sp(6, 1, 5, 1), sp(6, 2, 7, 1), sp(5, 3, 7, 1), sp(5, 1, 5, 1), sp(7, 3, 5, 2), sp(7, 3, 7, 3), sp(20, 1, 10, 1, 20, 1), sp(5, 5, 6, 1), sp(5, 19, 5, 19),
		sp(7, 1, 30, 1), sp(7, 1, 4, 1), sp(7, 1, 8, 0), sp(7, 1, 9, -2), sp(7, 1, 23, 2), sp(5, 1, 6, 1, 7, 18), sp(5, 19, 24, 1), sp(24, 1, 5, 1), sp(5, 0, 5, 1),
	}
	for _, free := range bad {
		noPool(t, three, free, api.ErrRange)
		noPool(t, api.Shape{Pages: 24, Inodes: 8, Cores: 3, Data: 6}, free, api.ErrShape)
	}
	for _, s := range shapes {
		for _, n := range wild {
			noPool(t, s, sp(n, 1), api.ErrRange)
			noPool(t, s, sp(s.Data, n), api.ErrRange)
			noPool(t, s, sp(s.Data, 1, n, 1), api.ErrRange)
			noPool(t, s, sp(s.Data, 1, s.Data+1, n), api.ErrRange)
		}
		noPool(t, s, sp(s.Data-1, 1), api.ErrRange)
		noPool(t, s, sp(s.Pages, 1), api.ErrRange)
		noPool(t, s, sp(s.Data, s.Pages-s.Data+1), api.ErrRange)
	}
}

// TestP5_5EverySmallPairOfSpans: by the words of the promise, with numbers that can't wrap.
func TestP5_5EverySmallPairOfSpans(t *testing.T) {
	good := func(a api.Span) bool { return a.Count >= 1 && a.From >= 16 && a.From+a.Count <= 24 }
	for n := range 12 * 12 * 12 * 12 {
		a := api.Span{From: 14 + n%12, Count: n/12%12 - 1}
		b := api.Span{From: 14 + n/144%12, Count: n/1728 - 1}
		p, e := extents.NewPool(narrow, []api.Span{a, b})
		if !good(a) || !good(b) || b.From < a.From+a.Count {
			if p != nil || e != api.ErrRange {
				t.Fatalf("NewPool of %v, %v: %v, %d", a, b, p != nil, e)
			}
			continue
		}
		if p == nil || e != api.OK || p.Free() != a.Count+b.Count {
			t.Fatalf("NewPool of %v, %v: %v, %d", a, b, p != nil, e)
		}
	}
}

func TestP5_6Areas(t *testing.T) {
	var cores, pages []int
	for c := range 8 {
		cores = append(cores, c+1)
	}
	for p := 24; p <= 1024; p += 1 + p/20 {
		pages = append(pages, p)
	}
	for _, s := range allShapes(append(pages, 1023, 1024), []int{8, 64, 96, 256}, cores) {
		p, m := pool(t, s, nil), newModel(s, nil)
		next := s.Data
		for c := range s.Cores {
			from, end := m.area(c)
			if a := p.Area(c); a != (api.Span{From: from, Count: end - from}) || a.From != next || a.Count < 1 {
				t.Fatalf("%v: Area(%d) = %v, want %d up to %d", s, c, a, from, end)
			}
			next = end
		}
		sameInt(t, "the areas' end", next, s.Pages)
	}
}

func TestP5_6AreasOfKnownShapes(t *testing.T) {
	for _, c := range []struct {
		s api.Shape
		a []api.Span
	}{
		{three, sp(5, 6, 11, 6, 17, 7)},
		{narrow, sp(16, 1, 17, 1, 18, 1, 19, 1, 20, 1, 21, 1, 22, 1, 23, 1)},
		{wide, sp(36, 123, 159, 124, 283, 123, 406, 124, 530, 123, 653, 124, 777, 123, 900, 124)},
		{odd, sp(6, 27, 33, 28, 61, 28, 89, 27, 116, 28, 144, 28, 172, 28)},
		{one, sp(5, 125)},
	} {
		p := pool(t, c.s, nil)
		for i, a := range c.a {
			if p.Area(i) != a {
				t.Errorf("%v: Area(%d) = %v, want %v", c.s, i, p.Area(i), a)
			}
		}
	}
}

func TestP5_6AreasOfWhatIsNoCore(t *testing.T) {
	for _, s := range shapes {
		p := pool(t, s, sp(s.Data, s.Pages-s.Data))
		for _, c := range append([]int{s.Cores, s.Cores + 1, 8, 9}, wild...) {
			if c < s.Cores && c >= 0 {
				continue
			}
			if a := p.Area(c); a != (api.Span{}) {
				t.Errorf("Area(%d) = %v", c, a)
			}
		}
	}
}

func TestP5_6AreasAreTheShapesAlone(t *testing.T) {
	p := pool(t, three, sp(5, 19))
	p.Take(0, 19)
	if p.Area(0) != (api.Span{From: 5, Count: 6}) || p.Area(2) != (api.Span{From: 17, Count: 7}) {
		t.Error("areas of a pool without a free page")
	}
}

func TestP5_9WhatAPoolTells(t *testing.T) {
	for seed := range int64(40) {
		r := rand.New(rand.NewSource(100 + seed))
		for _, s := range shapes {
			free := someFree(r, s, r.Float64())
			p := pool(t, s, free)
			for range 2 { // telling changes nothing
				newModel(s, free).agree(t, "a pool", p)
			}
		}
	}
}

func TestP5_9OverTheBorders(t *testing.T) {
	p := pool(t, three, sp(9, 4, 16, 1, 18, 1))
	sameSpans(t, "Core(0)", p.Core(0), sp(9, 2))
	sameSpans(t, "Core(1)", p.Core(1), sp(11, 2, 16, 1))
	sameSpans(t, "Core(2)", p.Core(2), sp(18, 1))
	sameSpans(t, "Spans", p.Spans(), sp(9, 4, 16, 1, 18, 1))
	all := pool(t, narrow, sp(16, 8))
	for c := range 8 {
		sameSpans(t, "Core", all.Core(c), sp(16+c, 1))
	}
	sameSpans(t, "Spans over all borders", all.Spans(), sp(16, 8))
}

func TestP5_9WildNumbers(t *testing.T) {
	for _, s := range shapes {
		p := pool(t, s, sp(s.Data, s.Pages-s.Data))
		for _, n := range append([]int{0, 4, s.Data - 1, s.Pages}, wild...) {
			if p.Has(n) {
				t.Errorf("%v: Has(%d)", s, n)
			}
		}
		for _, n := range append([]int{s.Cores, 8}, wild...) {
			if l := p.Core(n); len(l) != 0 {
				t.Errorf("%v: Core(%d) = %v", s, n, l)
			}
		}
		if !p.Has(s.Data) || !p.Has(s.Pages-1) {
			t.Errorf("%v: the data area's first and last page", s)
		}
	}
}

func TestP5_10Copy(t *testing.T) {
	for seed := range int64(30) {
		r := rand.New(rand.NewSource(seed))
		for _, s := range shapes {
			free := someFree(r, s, 0.6)
			p, m, was := pool(t, s, free), newModel(s, free), newModel(s, free)
			q := p.Copy()
			was.agree(t, "the copy", q)
			step(t, r, p, m)
			was.agree(t, "the copy, the first one changed", q)
			m.agree(t, "the first one", p)
			step(t, r, q, was)
			m.agree(t, "the first one, the copy changed", p)
			was.agree(t, "the changed copy", q)
			for c := range s.Cores {
				if p.Area(c) != q.Area(c) {
					t.Fatalf("areas of a copy: %v, %v", p.Area(c), q.Area(c))
				}
			}
		}
	}
}

func TestP5_10CopyOfACopy(t *testing.T) {
	p := pool(t, three, sp(5, 3))
	q := p.Copy()
	z := q.Copy()
	p.Take(0, 3)
	q.Give([]int{20})
	sameSpans(t, "the first", p.Spans(), nil)
	sameSpans(t, "the copy", q.Spans(), sp(5, 3, 20, 1))
	sameSpans(t, "the copy's copy", z.Spans(), sp(5, 3))
	if p == q || q == z {
		t.Error("a copy is the pool itself")
	}
}

// step: a Take and a Give that are done, on a pool and on its model.
func step(t *testing.T, r *rand.Rand, p *extents.Pool, m *model) {
	t.Helper()
	c, n := r.Intn(m.shape.Cores), r.Intn(len(m.free)+1)
	got, e := p.Take(c, n)
	want, f := m.take(c, n)
	sameErr(t, "Take", e, f)
	sameSpans(t, "Take", got, want)
	back := someBack(r, m)
	sameErr(t, "Give", p.Give(back), m.give(back))
}

// someBack: pages that aren't free, some of them, in any order.
func someBack(r *rand.Rand, m *model) []int {
	var l []int
	for p := m.shape.Data; p < m.shape.Pages; p++ {
		if !m.has(p) && r.Intn(3) == 0 {
			l = append(l, p)
		}
	}
	r.Shuffle(len(l), func(i, k int) { l[i], l[k] = l[k], l[i] })
	return l
}

// TestP5_11SetAlone: pools that came to the same free pages by unlike ways.
func TestP5_11SetAlone(t *testing.T) {
	for seed := range int64(40) {
		r := rand.New(rand.NewSource(seed))
		for _, s := range shapes {
			free := someFree(r, s, 0.5)
			p, m := pool(t, s, free), newModel(s, free)
			for range 1 + r.Intn(6) {
				step(t, r, p, m)
			}
			q := pool(t, s, m.spans())
			scattered := pool(t, s, nil)
			pages := pagesOf(m.spans())
			r.Shuffle(len(pages), func(i, k int) { pages[i], pages[k] = pages[k], pages[i] })
			for _, page := range pages {
				scattered.Give([]int{page})
			}
			for range 4 {
				c, n := r.Intn(s.Cores), r.Intn(p.Free()/2+1)
				want, e := m.take(c, n)
				back := someBack(r, m)
				f := m.give(back)
				for _, x := range []*extents.Pool{p, q, scattered} {
					got, g := x.Take(c, n)
					sameErr(t, "Take", g, e)
					sameSpans(t, "Take", got, want)
					sameErr(t, "Give", x.Give(back), f)
					m.agree(t, "a pool", x)
				}
			}
		}
	}
}

func TestP5_11AForeignPageGoesHome(t *testing.T) {
	p := pool(t, three, sp(17, 7))
	l, e := p.Take(0, 3) // core 0 takes pages of core 2's area
	sameErr(t, "Take", e, api.OK)
	sameSpans(t, "Take", l, sp(17, 3))
	sameErr(t, "Give", p.Give([]int{18, 17}), api.OK)
	sameSpans(t, "Core(0)", p.Core(0), nil)
	sameSpans(t, "Core(2)", p.Core(2), sp(17, 2, 20, 4))
	sameErr(t, "Give", p.Give([]int{9}), api.OK)
	l, _ = p.Take(0, 2)
	sameSpans(t, "Take of core 0", l, sp(9, 1, 17, 1))
	l, _ = p.Take(2, 1)
	sameSpans(t, "Take of core 2", l, sp(18, 1))
}

func TestP5_11PoolsOfTheirOwn(t *testing.T) {
	p, q := pool(t, three, sp(5, 3)), pool(t, three, sp(5, 3))
	p.Take(0, 2)
	p.Give([]int{20})
	sameSpans(t, "the other pool", q.Spans(), sp(5, 3))
	if slices.Equal(p.Spans(), q.Spans()) {
		t.Error("Take and Give did nothing")
	}
}
