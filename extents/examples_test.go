package extents_test

import (
	"testing"

	"furrow/api"
	"furrow/extents"
	"furrow/layout"
)

// TestExamplesOfPools: the chapter's examples 1 to 6, one behind the other on one pool.
func TestExamplesOfPools(t *testing.T) {
	s, e := layout.Fit(api.Super{Pages: 24, Inodes: 8, Cores: 3})
	if e != api.OK || s != three {
		t.Fatalf("the examples' shape: %v, %d", s, e)
	}
	p := pool(t, s, sp(5, 19))
	tells := func(what string, free int, spans []api.Span, cores ...[]api.Span) {
		t.Helper()
		sameInt(t, what+": Free", p.Free(), free)
		sameSpans(t, what+": Spans", p.Spans(), spans)
		for c, l := range cores {
			sameSpans(t, what+": Core", p.Core(c), l)
		}
	}
	take := func(what string, c, n int, want []api.Span, f api.Errno) {
		t.Helper()
		l, e := p.Take(c, n)
		sameErr(t, what, e, f)
		sameSpans(t, what, l, want)
	}
	tells("1", 19, sp(5, 19), sp(5, 6), sp(11, 6), sp(17, 7))
	if p.Area(0) != (api.Span{From: 5, Count: 6}) || p.Area(1) != (api.Span{From: 11, Count: 6}) || p.Area(2) != (api.Span{From: 17, Count: 7}) || p.Area(3) != (api.Span{}) {
		t.Error("1: areas")
	}
	take("2", 1, 8, sp(11, 8), api.OK)
	tells("2", 11, sp(5, 6, 19, 5), sp(5, 6), nil, sp(19, 5))
	take("3", 2, 7, sp(19, 5, 5, 2), api.OK)
	tells("3", 4, sp(7, 4), sp(7, 4), nil, nil)
	take("4", 0, 5, nil, api.ErrFull)
	take("4", 3, 0, nil, api.ErrRange)
	take("4", 0, -1, nil, api.ErrRange)
	take("4", 1, 0, nil, api.OK)
	tells("4", 4, sp(7, 4), sp(7, 4), nil, nil)
	sameErr(t, "5", p.Give([]int{11, 5, 13, 12}), api.OK)
	tells("5", 8, sp(5, 1, 7, 7), sp(5, 1, 7, 4), sp(11, 3), nil)
	sameErr(t, "5: Give of 4", p.Give([]int{4}), api.ErrRange)
	sameErr(t, "5: Give of 14, 5", p.Give([]int{14, 5}), api.ErrTwice)
	if p.Has(14) {
		t.Error("5: 14 is free")
	}
	sameErr(t, "5: Give of 14, 14", p.Give([]int{14, 14}), api.ErrTwice)
	sameErr(t, "5: Give of 24, 5", p.Give([]int{24, 5}), api.ErrRange)
	tells("5", 8, sp(5, 1, 7, 7), sp(5, 1, 7, 4), sp(11, 3), nil)
	take("6", 2, 5, sp(5, 1, 7, 4), api.OK)
	tells("6", 3, sp(11, 3), nil, sp(11, 3), nil)
}

func TestExampleOfNewPools(t *testing.T) {
	for _, free := range [][]api.Span{sp(6, 2, 5, 1), sp(5, 20), sp(4, 1), sp(5, 0)} {
		noPool(t, three, free, api.ErrRange)
	}
	sameSpans(t, "7", pool(t, three, sp(5, 1, 6, 1)).Spans(), sp(5, 2))
	sameSpans(t, "P5.5", pool(t, three, sp(10, 2, 12, 1)).Spans(), sp(10, 3))
}

func TestExampleOfBitmaps(t *testing.T) {
	b := bitmap(t, 8, 1, 2, 5)
	if b.Set(2) || b.Set(8) || b.Set(-1) {
		t.Error("8: Set")
	}
	sameSpans(t, "8: Holes(0, 8)", b.Holes(0, 8), sp(0, 1, 3, 2, 6, 2))
	sameSpans(t, "8: Holes(3, 7)", b.Holes(3, 7), sp(3, 2, 6, 1))
	sameSpans(t, "8: Holes(-5, 100)", b.Holes(-5, 100), sp(0, 1, 3, 2, 6, 2))
	sameSpans(t, "8: Holes(5, 5)", b.Holes(5, 5), nil)
	o := bitmap(t, 10, 2, 5, 9)
	sameInt(t, "8: Merge", b.Merge(o), 2)
	sameInt(t, "8: Count", b.Count(), 3)
	if !b.Has(1) || !b.Has(2) || !b.Has(5) || !o.Has(9) || extents.NewBitmap(8).Merge(o) != -1 {
		t.Error("8: what is set behind Merge")
	}
}
