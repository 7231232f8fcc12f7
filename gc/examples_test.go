package gc_test

import (
	"slices"
	"testing"

	"furrow/api"
	"furrow/codec"
	"furrow/gc"
	"furrow/layout"
)

// asked: whether Want and Due answer these.
func asked(t *testing.T, what string, n api.Node, want int, due bool) {
	t.Helper()
	if w, d := gc.Want(n), gc.Due(n); w != want || d != due {
		t.Errorf("%s: Want %d, Due %v; want %d, %v", what, w, d, want, due)
	}
}

func TestExamples1To3(t *testing.T) {
	first := with(second(), func(n *api.Node) { n.Tail, n.Log, n.Entries = 3072, []int{5}, 7 })
	asked(t, "example 1", first, 1, false)
	asked(t, "example 1, 14 entries", second(), 1, true)
	asked(t, "example 1, 13 entries", with(second(), func(n *api.Node) { n.Entries = 13 }), 1, false)
	asked(t, "example 2, 7 names", dir(7, 14), 1, true)
	asked(t, "example 2, 8 names of 15", dir(8, 15), 2, false)
	asked(t, "example 2, 8 names of 16", dir(8, 16), 2, true)
	asked(t, "example 3", file(0), 0, true)
	asked(t, "example 3, 13 entries", with(file(0), func(n *api.Node) { n.Entries = 13 }), 0, false)
}

func TestExample4(t *testing.T) {
	d := plain(t, small)
	got := collects(t, "example 4", d, small, second(), []int{7})
	want := with(second(), func(n *api.Node) { n.Head, n.Tail, n.Log, n.Entries = 7, 3712, []int{7}, 1 })
	if !same(got, want) || d.Steps() != 13+18 {
		t.Errorf("example 4: %+v, %d steps; want %+v, 31", got, d.Steps(), want)
	}
	for at, v := range map[int]uint64{2112: 0, 2120: codec.Seal(2120, 7), 2128: codec.Seal(2128, 3712)} {
		if w, _ := d.Word(at); w != v {
			t.Errorf("example 4: the word at %d is %x, want %x", at, w, v)
		}
	}
	line, _ := d.Read(7*512+64, 64)
	e, no := layout.OpenEntry(api.Line(line))
	if no != api.OK || e != (api.Entry{Kind: api.EntWrite, Seq: 1, Count: 3, Page: 10, Size: 1536}) {
		t.Errorf("example 4: the entry is %+v, %v", e, no)
	}
}

func TestExample5(t *testing.T) {
	d := plain(t, small)
	got := collects(t, "example 5", d, small, dir(0, 7), nil)
	want := api.Node{Ino: 2, Kind: api.KindDir, Links: 1}
	if !same(got, want) || d.Steps() != 15 {
		t.Errorf("example 5: %+v, %d steps; want %+v, 15", got, d.Steps(), want)
	}
}

func TestExamples6And7(t *testing.T) {
	change := func(f func(n *api.Node)) api.Node { return with(second(), f) }
	wide := small
	wide.Pages = 25
	for _, pages := range [][]int{nil, {7, 8}, {5}, {6}, {4}, {24}} {
		refused(t, "example 6", plain(t, small), small, second(), pages, api.ErrPages)
	}
	for _, c := range []struct {
		n     api.Node
		pages []int
		want  api.Errno
	}{
		{change(func(n *api.Node) { n.Tail, n.Head = 0, 0 }), []int{7}, api.ErrSlot},
		{change(func(n *api.Node) { n.Ino = 9 }), []int{7}, api.ErrSlot},
		{change(func(n *api.Node) { n.Ino = 0 }), []int{7}, api.ErrSlot},
		{change(func(n *api.Node) { n.Links = 0 }), []int{7}, api.ErrSlot},
		{file(1536, 0, 10, 4), []int{7}, api.ErrMeaning},
		{file(1536, 0, 23, 3), []int{7}, api.ErrEntry},
		{file(1536, 0, 23, 3), nil, api.ErrPages},
	} {
		refused(t, "example 6", plain(t, small), small, c.n, c.pages, c.want)
	}
	refused(t, "example 6", plain(t, small), wide, second(), []int{7}, api.ErrShape)
	b := plain(t, small).View()
	put(b, 512, codec.Seal(512, 1))
	refused(t, "example 7", load(t, b), small, second(), []int{7}, api.ErrUndo)
	refused(t, "example 7", load(t, b), small, second(), nil, api.ErrPages)
}

func TestExample8(t *testing.T) {
	r := chance()
	var old []api.Entry
	for range 14 {
		old = append(old, api.Entry{Kind: api.EntWrite, Count: 3, Page: 10, Size: 1536})
	}
	b, n := logged(t, r, small, 2, api.KindFile, 1, old, []int{5, 6})
	if !same(n, second()) {
		t.Fatalf("the log means %+v", n)
	}
	d := load(t, b)
	d.Arm(13)
	if got, e := gc.Collect(d, small, n, []int{7}); e != api.ErrDead || !none(got) {
		t.Errorf("example 8: %+v, %v", got, e)
	}
	if len(d.Doubts()) != 0 {
		t.Errorf("example 8: doubts %v", d.Doubts())
	}
	left := d.Crash(nil)
	if s, e := opened(left, 2); s != slot(n) || e != api.OK {
		t.Errorf("example 8: the slot is %v, %v", s, e)
	}
	if es, ps := walked(t, "example 8", left, small, 2, slot(n)); len(es) != 14 || !slices.Equal(ps, []int{5, 6}) {
		t.Errorf("example 8: the old log reads %v, %v", es, ps)
	}
}

func TestExample9(t *testing.T) {
	asked(t, "example 9, Kind 0", with(second(), func(n *api.Node) { n.Kind = 0 }), 0, false)
	asked(t, "example 9, no node", api.Node{Entries: 99}, 0, false)
	asked(t, "example 9, names that fall", with(dir(2, 40), func(n *api.Node) { slices.Reverse(n.Names) }), 0, false)
}

func TestExample10(t *testing.T) {
	d := plain(t, small)
	n := dir(15, 32)
	got := collects(t, "example 10", d, small, n, []int{9, 7, 8})
	want := with(n, func(n *api.Node) { n.Head, n.Tail, n.Log, n.Entries = 9, 8*512+128, []int{9, 7, 8}, 15 })
	if !same(got, want) {
		t.Errorf("example 10: %+v, want %+v", got, want)
	}
	for i, name := range n.Names {
		line, _ := d.Read([]int{9, 7, 8}[i/7]*512+64+i%7*64, 64)
		e, no := layout.OpenEntry(api.Line(line))
		if no != api.OK || e != (api.Entry{Kind: api.EntAdd, Seq: uint64(i + 1), Name: name.Name, Ino: name.Ino}) {
			t.Errorf("example 10: entry %d is %+v, %v", i, e, no)
		}
	}
}
