package extents_test

import (
	"math"
	"math/rand"
	"slices"
	"testing"

	"furrow/api"
	"furrow/extents"
	"furrow/layout"
)

// three: the examples' shape; narrow: the fewest pages of data with the most cores; wide: the most of all; odd: areas of unlike lengths; one: a core alone.
var (
	three  = api.Shape{Pages: 24, Inodes: 8, Cores: 3, Data: 5}
	narrow = api.Shape{Pages: 24, Inodes: 96, Cores: 8, Data: 16}
	wide   = api.Shape{Pages: 1024, Inodes: 256, Cores: 8, Data: 36}
	odd    = api.Shape{Pages: 200, Inodes: 16, Cores: 7, Data: 6}
	one    = api.Shape{Pages: 130, Inodes: 8, Cores: 1, Data: 5}
	shapes = []api.Shape{three, narrow, wide, odd, one}
)

// wild: numbers that are no page and no core of any device; some of them are when their higher bits are cut off.
var wild = []int{-1, -2, -8, -64, -1024, 1024, 1025, 2048, 1<<31 + 6, 1<<32 + 6, -1<<32 + 6, 1 << 62, math.MaxInt, math.MaxInt - 1, math.MaxInt - 63, math.MinInt, math.MinInt + 1, math.MinInt + 6}

// sp: spans by their numbers: From, Count, From, Count ..
func sp(n ...int) []api.Span {
	var l []api.Span
	for i := 0; i < len(n); i += 2 {
		l = append(l, api.Span{From: n[i], Count: n[i+1]})
	}
	return l
}

// spansOf: rising pages as a longest and rising list: by the chapter's words, each From above From+Count of the span before.
func spansOf(pages []int) []api.Span {
	var l []api.Span
	for i, p := range pages {
		if i > 0 && pages[i-1] == p-1 {
			l[len(l)-1].Count++
			continue
		}
		l = append(l, api.Span{From: p, Count: 1})
	}
	return l
}

func pagesOf(spans []api.Span) []int {
	var l []int
	for _, s := range spans {
		for p := s.From; p < s.From+s.Count; p++ {
			l = append(l, p)
		}
	}
	return l
}

func sameSpans(t *testing.T, what string, got, want []api.Span) {
	t.Helper()
	if !slices.Equal(got, want) {
		t.Fatalf("%s: %v, want %v", what, got, want)
	}
}

func sameErr(t *testing.T, what string, got, want api.Errno) {
	t.Helper()
	if got != want {
		t.Fatalf("%s: %d, want %d", what, got, want)
	}
}

func sameInt(t *testing.T, what string, got, want int) {
	t.Helper()
	if got != want {
		t.Fatalf("%s: %d, want %d", what, got, want)
	}
}

func pool(t *testing.T, s api.Shape, free []api.Span) *extents.Pool {
	t.Helper()
	p, e := extents.NewPool(s, free)
	if p == nil || e != api.OK {
		t.Fatalf("NewPool(%v, %v): %v, %d", s, free, p != nil, e)
	}
	return p
}

// bitmap: one of n marks with these set.
func bitmap(t *testing.T, n int, set ...int) *extents.Bitmap {
	t.Helper()
	b := extents.NewBitmap(n)
	for _, i := range set {
		if !b.Set(i) {
			t.Fatalf("Set(%d) of %d marks: false", i, n)
		}
	}
	return b
}

// model: a pool by the chapter's words: a shape and the set of its free pages.
type model struct {
	shape api.Shape
	free  map[int]int // the free pages; the values say nothing
}

func newModel(s api.Shape, free []api.Span) *model {
	m := &model{shape: s, free: map[int]int{}}
	for _, p := range pagesOf(free) {
		m.free[p] = 1
	}
	return m
}

func (m *model) has(p int) bool { return m.free[p] == 1 }

// between: the free pages from lo up to hi, rising.
func (m *model) between(lo, hi int) []int {
	var l []int
	for p := lo; p < hi; p++ {
		if m.has(p) {
			l = append(l, p)
		}
	}
	return l
}

// area: P5.6: its first page, and the page behind its last one.
func (m *model) area(c int) (int, int) {
	s := m.shape
	d := s.Pages - s.Data
	return s.Data + (c*d)/s.Cores, s.Data + ((c+1)*d)/s.Cores
}

func (m *model) core(c int) []int {
	if c < 0 || c >= m.shape.Cores {
		return nil
	}
	return m.between(m.area(c))
}

func (m *model) spans() []api.Span { return spansOf(m.between(m.shape.Data, m.shape.Pages)) }

// take: P5.7: all the free pages in the order in which they would be taken, cut to n.
func (m *model) take(c, n int) ([]api.Span, api.Errno) {
	if c < 0 || c >= m.shape.Cores || n < 0 {
		return nil, api.ErrRange
	}
	if len(m.free) < n {
		return nil, api.ErrFull
	}
	var order []int
	for k := c; k < m.shape.Cores; k++ {
		order = append(order, m.core(k)...)
	}
	for k := 0; k < c; k++ {
		order = append(order, m.core(k)...)
	}
	for _, p := range order[:n] {
		delete(m.free, p)
	}
	return spansOf(order[:n]), api.OK
}

func (m *model) give(pages []int) api.Errno {
	for _, p := range pages {
		if p < m.shape.Data || p > m.shape.Pages-1 {
			return api.ErrRange
		}
	}
	for i, p := range pages {
		if m.has(p) || slices.Contains(pages[:i], p) {
			return api.ErrTwice
		}
	}
	for _, p := range pages {
		m.free[p] = 1
	}
	return api.OK
}

// agree: whether all that a pool tells of itself is what the model says.
func (m *model) agree(t *testing.T, what string, p *extents.Pool) {
	t.Helper()
	sameInt(t, what+": Free", p.Free(), len(m.free))
	sameSpans(t, what+": Spans", p.Spans(), m.spans())
	for c := -1; c <= m.shape.Cores; c++ {
		sameSpans(t, what+": Core", p.Core(c), spansOf(m.core(c)))
	}
	for page := -1; page <= m.shape.Pages; page++ {
		if p.Has(page) != m.has(page) {
			t.Fatalf("%s: Has(%d) = %v", what, page, p.Has(page))
		}
	}
}

// someFree: spans of free pages as NewPool takes them (they may touch), of about this part of a shape's data area.
func someFree(r *rand.Rand, s api.Shape, part float64) []api.Span {
	var l []api.Span
	for p := s.Data; p < s.Pages; p++ {
		if r.Float64() >= part {
			continue
		}
		if n := len(l); n > 0 && l[n-1].From+l[n-1].Count == p && r.Intn(4) > 0 {
			l[n-1].Count++
			continue
		}
		l = append(l, api.Span{From: p, Count: 1})
	}
	return l
}

// allShapes: every shape that Fit gives for these numbers.
func allShapes(pages, inodes, cores []int) []api.Shape {
	var l []api.Shape
	for _, p := range pages {
		for _, i := range inodes {
			for _, c := range cores {
				if s, e := layout.Fit(api.Super{Pages: p, Inodes: i, Cores: c}); e == api.OK {
					l = append(l, s)
				}
			}
		}
	}
	return l
}
