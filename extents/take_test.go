package extents_test

import (
	"math"
	"math/rand"
	"testing"

	"furrow/api"
)

func TestP5_7Take(t *testing.T) {
	for seed := range int64(60) {
		r := rand.New(rand.NewSource(seed))
		for _, s := range shapes {
			free := someFree(r, s, []float64{0.05, 0.3, 0.7, 1}[r.Intn(4)])
			p, m := pool(t, s, free), newModel(s, free)
			for range 12 {
				c, n := r.Intn(s.Cores+2)-1, r.Intn(max(4, len(m.free)/3+2))-1
				got, e := p.Take(c, n)
				want, f := m.take(c, n)
				sameErr(t, "Take", e, f)
				sameSpans(t, "Take", got, want)
				m.agree(t, "behind Take", p)
			}
		}
	}
}

// TestP5_7EveryCoreAndNumber: of whole pools and of pools with every second page free.
func TestP5_7EveryCoreAndNumber(t *testing.T) {
	for _, s := range []api.Shape{three, narrow} {
		var second []api.Span
		for p := s.Data; p < s.Pages; p += 2 {
			second = append(second, api.Span{From: p, Count: 1})
		}
		for _, free := range [][]api.Span{sp(s.Data, s.Pages-s.Data), second, nil} {
			for c := range s.Cores {
				for n := range 22 {
					p, m := pool(t, s, free), newModel(s, free)
					got, e := p.Take(c, n)
					want, f := m.take(c, n)
					sameErr(t, "Take", e, f)
					sameSpans(t, "Take", got, want)
					m.agree(t, "behind Take", p)
				}
			}
		}
	}
}

func TestP5_7SpansInTheOrderOfTaking(t *testing.T) {
	for _, c := range []struct {
		free    []api.Span
		core, n int
		want    []api.Span
	}{
		{sp(5, 19), 2, 19, sp(17, 7, 5, 12)},               // behind the last core comes core 0, then core 1
		{sp(5, 19), 1, 19, sp(11, 13, 5, 6)},               // over the border of two areas in one span
		{sp(5, 19), 0, 19, sp(5, 19)},                      // one area behind the other
		{sp(5, 19), 0, 6, sp(5, 6)},                        // the area and no more
		{sp(5, 19), 0, 7, sp(5, 7)},                        // one more than the area has
		{sp(10, 1, 11, 1), 0, 2, sp(10, 2)},                // spans that touch
		{sp(10, 1, 11, 1), 1, 2, sp(11, 1, 10, 1)},         // 10 isn't the number behind 11
		{sp(23, 1), 0, 1, sp(23, 1)},                       // the farthest page
		{sp(5, 1, 7, 1, 9, 1), 2, 3, sp(5, 1, 7, 1, 9, 1)}, // lowest first
		{sp(9, 1, 12, 1, 20, 1), 1, 3, sp(12, 1, 20, 1, 9, 1)},
	} {
		p := pool(t, three, c.free)
		got, e := p.Take(c.core, c.n)
		sameErr(t, "Take", e, api.OK)
		sameSpans(t, "Take", got, c.want)
	}
}

func TestP5_7Refused(t *testing.T) {
	for _, s := range shapes {
		p, m := pool(t, s, sp(s.Data, 4)), newModel(s, sp(s.Data, 4))
		refused := func(c, n int, want api.Errno) {
			t.Helper()
			l, e := p.Take(c, n)
			if l != nil || e != want {
				t.Errorf("%v: Take(%d, %d): %v, %d, want nil, %d", s, c, n, l, e, want)
			}
		}
		for _, c := range append([]int{s.Cores, 8}, wild...) {
			for _, n := range append([]int{0, 1, 4, 5}, wild...) {
				refused(c, n, api.ErrRange)
			}
		}
		for c := range s.Cores {
			for _, n := range []int{-1, -4, math.MinInt, math.MinInt + 1, -1 << 32, -1<<32 + 1} {
				refused(c, n, api.ErrRange)
			}
			for _, n := range []int{5, 6, s.Pages, 1024, math.MaxInt, math.MaxInt - 1, 1 << 32, 1<<32 + 1} {
				refused(c, n, api.ErrFull)
			}
		}
		m.agree(t, "behind refusals", p)
	}
}

func TestP5_7NoPages(t *testing.T) {
	for _, free := range [][]api.Span{nil, sp(5, 19), sp(12, 1)} {
		p := pool(t, three, free)
		for c := range 3 {
			l, e := p.Take(c, 0)
			if len(l) != 0 || e != api.OK {
				t.Errorf("Take(%d, 0): %v, %d", c, l, e)
			}
		}
		sameSpans(t, "Spans", p.Spans(), free)
	}
}

func TestP5_7TheLastOfThem(t *testing.T) {
	for _, s := range shapes {
		p := pool(t, s, sp(s.Data, s.Pages-s.Data))
		n := p.Free()
		for k := range n {
			l, e := p.Take(k%s.Cores, 1)
			if e != api.OK || len(l) != 1 || l[0].Count != 1 || p.Has(l[0].From) {
				t.Fatalf("page %d of %d: %v, %d", k, n, l, e)
			}
		}
		_, e := p.Take(0, 1)
		sameErr(t, "Take of nothing", e, api.ErrFull)
		sameInt(t, "Free", p.Free(), 0)
	}
}
