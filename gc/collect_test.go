package gc_test

import (
	"fmt"
	"math/rand"
	"slices"
	"testing"

	"furrow/api"
	"furrow/gc"
	"furrow/pmem"
)

// stepByStep: whether Collect does the steps of P10.4 on a device of these bytes, cut behind each number of them (only some, if there are many) and whole, and answers as it should.
func stepByStep(t *testing.T, what string, b []byte, sh api.Shape, n api.Node, pages []int) {
	t.Helper()
	acts, _, want := collecting(t, load(t, b), n, pages)
	every := max(1, len(acts)/150)
	for cut := 0; cut < len(acts); cut += every {
		d, m := load(t, b), load(t, b)
		d.Arm(cut)
		m.Arm(cut)
		play(m, acts)
		if got, e := gc.Collect(d, sh, n, pages); e != api.ErrDead || !none(got) {
			t.Errorf("%s, cut at %d: %+v, %v", what, cut, got, e)
		}
		alike(t, fmt.Sprintf("%s, cut at %d of %d", what, cut, len(acts)), d, m)
	}
	d, m := load(t, b), load(t, b)
	d.Arm(len(acts))
	m.Arm(len(acts))
	play(m, acts)
	if got, e := gc.Collect(d, sh, n, pages); e != api.OK || !same(got, want) {
		t.Errorf("%s: %+v, %v; want %+v", what, got, e, want)
	}
	alike(t, what, d, m)
}

// stepsOf: P10.4's steps, by the sums of chapters 4 and 6.
func stepsOf(entries int) int {
	pages := sheets(entries)
	if entries == 0 {
		return 3 + 1 + 1 + 10
	}
	return 2*pages + 8*entries + pages + entries + 1 + 6 + 1 + 1 + 10
}

// TestP10_4Steps: each number of entries about the pages' edges, in any bytes.
func TestP10_4Steps(t *testing.T) {
	r := chance()
	for names := range 24 {
		n := with(dir(names, 32), func(n *api.Node) { n.Ino = 1 + r.Intn(8) })
		pages := drawnPages(r, small, sheets(names), n.Log...)
		stepByStep(t, fmt.Sprint(names, " names"), filled(r, small), small, n, pages)
		d := plain(t, small)
		if collects(t, "names", d, small, n, pages); d.Steps() != stepsOf(names) || len(d.Doubts()) != 0 {
			t.Errorf("%d names: %d steps, want %d; doubts %v", names, d.Steps(), stepsOf(names), d.Doubts())
		}
	}
}

func TestP10_4Files(t *testing.T) {
	r := chance()
	for i, n := range []api.Node{
		file(0), file(1), file(262144), file(1, 0, 23, 1), file(1536, 0, 10, 3), file(1536, 0, 10, 1, 1, 19, 1, 2, 12, 1),
		file(512*19, 0, 5, 19), file(262144, 493, 5, 19), file(262144, 0, 5, 16, 20, 5, 17, 300, 9, 1, 511, 9, 1),
		with(file(600, 0, 8, 2), func(n *api.Node) { n.Links, n.Ino = 100, 8 }),
	} {
		pages := drawnPages(r, small, gc.Want(n), n.Log...)
		stepByStep(t, fmt.Sprint("file ", i), filled(r, small), small, n, pages)
	}
}

// TestP10_4Shapes: other shapes, and nodes that are drawn.
func TestP10_4Shapes(t *testing.T) {
	r := chance()
	for round := range 24 {
		sh := []api.Shape{small, middling, large}[round%3]
		b, n := drawnNode(t, r, sh, 1+round/3%2, 7+r.Intn(30))
		free := sh.Pages - sh.Data - len(n.Log)
		if want := gc.Want(n); want <= free {
			stepByStep(t, fmt.Sprint("round ", round), b, sh, n, drawnPages(r, sh, want, n.Log...))
		}
	}
}

// TestP10_4LongLog: the most that a file's map may want: 512 entries in 74 pages.
func TestP10_4LongLog(t *testing.T) {
	r := chance()
	var n []int
	for off := range 512 {
		n = append(n, off, 1023-off, 1)
	}
	node := with(file(262144, n...), func(n *api.Node) { n.Ino, n.Head, n.Tail, n.Log = 256, 36, 36*512+192, nil })
	stepByStep(t, "512 runs", filled(r, large), large, node, drawnPages(r, large, 74, 36))
}

// TestP10_4FullDevice: a log that takes every page but its head's.
func TestP10_4FullDevice(t *testing.T) {
	r := chance()
	n := dir(7*18, 7*18)
	stepByStep(t, "all pages", filled(r, small), small, n, drawnPages(r, small, 18, 5))
	m := dir(7*18+1, 7*18+1)
	refused(t, "a page too few", plain(t, small), small, m, append(drawnPages(r, small, 18, 5), 5), api.ErrPages)
}

// TestP10_4InDoubt: a device with words in doubt: the steps are the same, and what is in doubt elsewhere stays it, but for marked words.
func TestP10_4InDoubt(t *testing.T) {
	r := chance()
	doubtful := func(b []byte, seed int64) *pmem.Device {
		d := load(t, b)
		r := rand.New(rand.NewSource(seed))
		for range 60 {
			at := 8 * r.Intn(24*64)
			if at < 512 || at >= 520 { // not the word that says that the journal is empty
				d.Store(at, r.Uint64())
			}
			if r.Intn(4) == 0 {
				d.Flush(at)
			}
		}
		return d
	}
	for seed := range int64(20) {
		b := filled(r, small)
		n := dir(int(seed), 40)
		pages := drawnPages(r, small, sheets(int(seed)), n.Log...)
		d, m := doubtful(b, seed), doubtful(b, seed)
		acts, _, want := collecting(t, m, n, pages)
		play(m, acts)
		if got := collects(t, "in doubt", d, small, n, pages); !same(got, want) {
			t.Errorf("in doubt: %+v, want %+v", got, want)
		}
		alike(t, "in doubt", d, m)
	}
}

// TestP10_4OtherDevice: a collection on one device isn't seen on another.
func TestP10_4OtherDevice(t *testing.T) {
	one, two := plain(t, small), plain(t, small)
	collects(t, "one", one, small, second(), []int{7})
	if two.Steps() != 0 || !slices.Equal(two.View(), plain(t, small).View()) {
		t.Error("another device was changed")
	}
	collects(t, "two", two, small, second(), []int{7})
	alike(t, "two", two, one)
}
