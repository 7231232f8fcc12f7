package extents_test

import (
	"slices"
	"testing"

	"furrow/api"
	"furrow/extents"
)

// spoil: writes over a list, over its spare room too.
func spoil(l []api.Span) {
	l = l[:cap(l)]
	for i := range l {
		l[i] = api.Span{From: -7, Count: -7}
	}
}

// TestP5_4NewMemory, TestP5_9NewMemory: whoever writes into an answer, or appends to it, changes no bitmap, no pool and no other answer (R3).
func TestP5_4NewMemory(t *testing.T) {
	b := bitmap(t, 100, 3, 5, 9, 70)
	want := slices.Clone(b.Holes(0, 100))
	for range 3 {
		l, other := b.Holes(0, 100), b.Holes(0, 100)
		spoil(l)
		sameSpans(t, "another answer", other, want)
		sameSpans(t, "a later answer", b.Holes(0, 100), want)
	}
}

func TestP5_9NewMemory(t *testing.T) {
	p := pool(t, three, sp(5, 1, 7, 2, 12, 1, 14, 3, 20, 1, 22, 1))
	m := newModel(three, p.Spans())
	asked := []func() []api.Span{p.Spans, func() []api.Span { return p.Core(0) }, func() []api.Span { return p.Core(1) }, func() []api.Span { return p.Core(2) }, p.Copy().Spans}
	for _, ask := range asked {
		var all [][]api.Span
		for _, other := range asked {
			all = append(all, other())
		}
		l := ask()
		want := slices.Clone(l)
		spoil(l)
		sameSpans(t, "a later answer", ask(), want)
		for i, other := range asked {
			sameSpans(t, "another answer", all[i], other())
		}
		m.agree(t, "the pool", p)
	}
}

func TestP5_7NewMemory(t *testing.T) {
	p := pool(t, three, sp(5, 1, 7, 1, 9, 1, 12, 1, 14, 1, 20, 1, 22, 1))
	a, _ := p.Take(1, 3)
	b, _ := p.Take(2, 3)
	spans := p.Spans()
	spoil(a)
	sameSpans(t, "a later Take", b, sp(22, 1, 5, 1, 7, 1))
	sameSpans(t, "Spans", spans, sp(9, 1))
	sameSpans(t, "Spans", p.Spans(), sp(9, 1))
}

// TestP5_5ListsAreNotKept, TestP5_8ListsAreNotKept: what is handed in isn't changed, spare room included, nor kept.
func TestP5_5ListsAreNotKept(t *testing.T) {
	for _, free := range [][]api.Span{sp(5, 1, 6, 1, 9, 2), sp(5, 1, 6, 1, 9, 99), sp(6, 1, 5, 1)} {
		room := append(slices.Clone(free), sp(91, 1, 92, 2)...)
		was := slices.Clone(room)
		p, e := extents.NewPool(three, room[:len(free)])
		sameSpans(t, "what was handed in", room, was)
		spoil(room)
		if e == api.OK {
			sameSpans(t, "the pool", p.Spans(), sp(5, 2, 9, 2))
		}
	}
}

func TestP5_8ListsAreNotKept(t *testing.T) {
	p := pool(t, three, sp(8, 1))
	for _, pages := range [][]int{{20, 9, 5}, {20, 21}, {24, 5}, {7, 8}} {
		room := append(slices.Clone(pages), 13, 12, 11)
		was := slices.Clone(room)
		p.Give(room[:len(pages)])
		if !slices.Equal(room, was) {
			t.Errorf("Give made %v of %v", room, was)
		}
		clear(room)
	}
	sameSpans(t, "the pool", p.Spans(), sp(5, 1, 8, 2, 20, 1))
}
