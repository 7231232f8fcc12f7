package gc_test

import (
	"slices"
	"testing"

	"furrow/api"
	"furrow/gc"
)

// TestP10_6Enough: what was collected isn't due, and wants the pages that it has.
func TestP10_6Enough(t *testing.T) {
	r := chance()
	for names := range 60 {
		n := dir(names, 999)
		got := collects(t, "names", plain(t, middling), middling, with(n, func(n *api.Node) { n.Head, n.Tail, n.Log = 7, 4096, []int{7} }), drawnPages(r, middling, sheets(names), 7))
		if gc.Due(got) || gc.Want(got) != len(got.Log) || !gc.Due(n) {
			t.Errorf("%d names: Due %v, Want %d, Log %v", names, gc.Due(got), gc.Want(got), got.Log)
		}
	}
	for round := range 60 {
		sh := []api.Shape{small, middling, large}[round%3]
		b, n := drawnNode(t, r, sh, 1+round/3%2, 1+r.Intn(40))
		if gc.Want(n) > sh.Pages-sh.Data-len(n.Log) {
			continue
		}
		got := collects(t, "drawn", load(t, b), sh, n, drawnPages(r, sh, gc.Want(n), n.Log...))
		if gc.Due(got) || gc.Want(got) != len(got.Log) {
			t.Errorf("%+v: Due %v, Want %d", got, gc.Due(got), gc.Want(got))
		}
	}
}

// TestP10_7Again: what was collected is collected into other pages, and says the same there.
func TestP10_7Again(t *testing.T) {
	r := chance()
	for round := range 60 {
		sh := []api.Shape{small, middling, large}[round%3]
		b, n := drawnNode(t, r, sh, 1+round/3%2, 1+r.Intn(30))
		want := gc.Want(n)
		if want == 0 || max(len(n.Log), want)+want > sh.Pages-sh.Data {
			continue
		}
		d := load(t, b)
		for range 4 {
			pages := drawnPages(r, sh, want, n.Log...)
			got := collects(t, "again", d, sh, n, pages)
			es, ps := walked(t, "again", d.View(), sh, n.Ino, slot(got))
			if !slices.Equal(es, canon(t, n)) || !slices.Equal(ps, pages) || !slices.Equal(got.Log, pages) || got.Entries != len(es) {
				t.Fatalf("again: %+v; the log reads %v, %v", got, es, ps)
			}
			n = got
		}
	}
}

// TestP10_7NothingLeft: what has no canonical entries has an empty log when it was collected, and isn't collected again.
func TestP10_7NothingLeft(t *testing.T) {
	for _, n := range []api.Node{dir(0, 14), file(0)} {
		d := plain(t, small)
		got := collects(t, "nothing", d, small, n, nil)
		asked(t, "nothing", got, 0, false)
		refused(t, "nothing again", d, small, got, nil, api.ErrSlot)
	}
}
