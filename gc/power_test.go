package gc_test

import (
	"bytes"
	"fmt"
	"math/rand"
	"slices"
	"testing"

	"furrow/api"
	"furrow/gc"
	"furrow/inode"
	"furrow/journal"
	"furrow/layout"
	"furrow/pmem"
)

// elsewhere: a device's bytes with zeros where a collection may write: the new pages, the journal's page, the slot's head and tail.
func elsewhere(b []byte, ino int, pages []int) []byte {
	b = bytes.Clone(b)
	clear(b[512:1024])
	clear(b[layout.SlotAt(ino)+8 : layout.SlotAt(ino)+24])
	for _, p := range pages {
		clear(b[512*p : 512*p+512])
	}
	return b
}

// means: whether the log of a slot in these bytes reads as the node's canonical entries, in the pages, and means what the node does.
func means(t *testing.T, what string, b []byte, sh api.Shape, s api.Slot, n api.Node, pages []int) {
	t.Helper()
	es, ps := walked(t, what, b, sh, n.Ino, s)
	if !slices.Equal(es, canon(t, n)) || !slices.Equal(ps, pages) {
		t.Fatalf("%s: the new log reads %v, %v; want %v, %v", what, es, ps, canon(t, n), pages)
	}
	m, e := inode.Replay(n.Kind, es)
	if e != api.OK || m.Size != n.Size || !slices.Equal(m.Map, n.Map) || !slices.Equal(m.Names, n.Names) {
		t.Fatalf("%s: the new log means %+v, %v; want %+v", what, m, e, n)
	}
}

// TestP10_5Same: behind a collection the log means what it meant, and nothing else differs.
func TestP10_5Same(t *testing.T) {
	r := chance()
	for round := range 120 {
		sh := []api.Shape{small, middling, large}[round%3]
		b, n := drawnNode(t, r, sh, 1+round/3%2, 1+r.Intn(50))
		if gc.Want(n) > sh.Pages-sh.Data-len(n.Log) {
			continue
		}
		pages := drawnPages(r, sh, gc.Want(n), n.Log...)
		d := load(t, b)
		got := collects(t, "round", d, sh, n, pages)
		what := fmt.Sprint("round ", round)
		s, e := opened(d.View(), n.Ino)
		if e != api.OK || s != slot(got) {
			t.Fatalf("%s: the line opens as %v, %v; want %v", what, s, e, slot(got))
		}
		means(t, what, d.View(), sh, s, n, pages)
		if !bytes.Equal(elsewhere(d.View(), n.Ino, pages), elsewhere(b, n.Ino, pages)) {
			t.Errorf("%s: bytes elsewhere differ", what)
		}
		if list, e := journal.Pending(d.View()); len(list) != 0 || e != api.OK || len(d.Doubts()) != 0 {
			t.Errorf("%s: pending %v, %v; doubts %v", what, list, e, d.Doubts())
		}
	}
}

// everyCrash: what a loss of power may leave of the device: all of it, if that is at most most; else the two ends, each doubt alone kept and alone lost, and some that are drawn.
func everyCrash(r *rand.Rand, d *pmem.Device, most int) [][]byte {
	doubts := d.Doubts()
	all := 1
	for _, w := range doubts {
		all = min(all*(len(w.News)+1), most+1)
	}
	var list [][]byte
	choices := make([]int, len(doubts))
	if all <= most {
		for range all {
			list = append(list, d.Crash(choices))
			for k := range choices { // the next number of the counter
				if choices[k]++; choices[k] <= len(doubts[k].News) {
					break
				}
				choices[k] = 0
			}
		}
		return list
	}
	list = append(list, d.Crash(nil), d.View())
	for k := range doubts {
		choices := make([]int, len(doubts))
		choices[k] = -1
		list = append(list, d.Crash(choices))
		for j := range choices {
			choices[j] = -1
		}
		choices[k] = 0
		list = append(list, d.Crash(choices))
	}
	for range most {
		for k := range choices {
			choices[k] = r.Int()
		}
		list = append(list, d.Crash(choices))
	}
	return list
}

// allOrNothing: P10.5 of a collection on a device that has these bytes, cut behind each number of steps.
func allOrNothing(t *testing.T, r *rand.Rand, b []byte, sh api.Shape, n api.Node, pages []int, most int) {
	t.Helper()
	acts, ahead, to := collecting(t, load(t, b), n, pages)
	es, ps := walked(t, "ahead of it", b, sh, n.Ino, slot(n))
	others := elsewhere(b, n.Ino, pages)
	for cut := 0; cut <= len(acts); cut++ {
		d := load(t, b)
		d.Arm(cut)
		_, e := gc.Collect(d, sh, n, pages)
		if (e == api.OK) != (cut == len(acts)) {
			t.Fatalf("cut at %d of %d steps: %v", cut, len(acts), e)
		}
		for _, left := range everyCrash(r, d, most) {
			over, f := journal.Overlay(left)
			if f != api.OK {
				t.Fatalf("cut at %d of %d steps: Overlay: %v", cut, len(acts), f)
			}
			now, no := opened(over, n.Ino)
			what := fmt.Sprintf("%+v cut at %d of %d steps: the line opens as %v, %v", n, cut, len(acts), now, no)
			switch {
			case no != api.OK || now != slot(n) && now != slot(to):
				t.Fatal(what)
			case cut <= ahead && now != slot(n), e == api.OK && now != slot(to):
				t.Fatal(what)
			case !bytes.Equal(elsewhere(over, n.Ino, pages), others):
				t.Fatal(what + ": bytes elsewhere differ")
			case now == slot(to):
				means(t, what, over, sh, now, n, pages)
			}
			// the old log stands there still, whatever the slot says
			if es2, ps2 := walked(t, what, over, sh, n.Ino, slot(n)); !slices.Equal(es2, es) || !slices.Equal(ps2, ps) {
				t.Fatalf("%s: the old log reads %v, %v", what, es2, ps2)
			}
		}
	}
}

// TestP10_5EveryCrash: few canonical entries, and all that a loss of power may leave of the words.
func TestP10_5EveryCrash(t *testing.T) {
	r := chance()
	for _, log := range [][]api.Entry{
		{{Kind: api.EntSize, Size: 9}},
		{{Kind: api.EntSize, Size: 9}, {Kind: api.EntSize, Size: 0}},
		slices.Repeat([]api.Entry{{Kind: api.EntWrite, Count: 2, Page: 15, Size: 1024}}, 14),
	} {
		b, n := logged(t, r, small, 2, api.KindFile, 1, log, []int{5, 6}[:sheets(len(log))])
		allOrNothing(t, r, b, small, n, drawnPages(r, small, gc.Want(n), n.Log...), 1<<11)
	}
	b, n := logged(t, r, small, 8, api.KindDir, 1, []api.Entry{{Kind: api.EntAdd, Name: "a", Ino: 3}, {Kind: api.EntDrop, Name: "a"}}, []int{23})
	allOrNothing(t, r, b, small, n, nil, 1<<11)
}

// TestP10_5EveryCut: logs that are drawn, cut everywhere.
func TestP10_5EveryCut(t *testing.T) {
	r := chance()
	for round := range 12 {
		sh := []api.Shape{small, small, middling}[round%3]
		b, n := drawnNode(t, r, sh, 1+round%2, 3+2*round)
		allOrNothing(t, r, b, sh, n, drawnPages(r, sh, gc.Want(n), n.Log...), 2)
	}
}

// TestP10_5AgainAndAgain: collections one behind the other on one device, each cut by a loss of power and begun again on what is left of it.
func TestP10_5AgainAndAgain(t *testing.T) {
	r := chance()
	for round := range 12 {
		b, n := drawnNode(t, r, small, 1+round%2, 20)
		if gc.Want(n) == 0 {
			continue
		}
		for range 30 {
			if 2*len(n.Log) > 19 || gc.Want(n)+len(n.Log) > 19 {
				break
			}
			pages := drawnPages(r, small, gc.Want(n), n.Log...)
			d := load(t, b)
			d.Arm(r.Intn(2 * stepsOf(len(canon(t, n)))))
			gc.Collect(d, small, n, pages)
			crashes := everyCrash(r, d, 8)
			d = load(t, crashes[r.Intn(len(crashes))])
			if _, e := journal.Recover(d); e != api.OK {
				t.Fatalf("Recover: %v", e)
			}
			b = d.View()
			now, no := opened(b, n.Ino)
			if no != api.OK {
				t.Fatalf("the line opens as %v, %v", now, no)
			}
			es, ps := walked(t, "behind a loss of power", b, small, n.Ino, now)
			m, e := inode.Replay(n.Kind, es)
			if e != api.OK || m.Size != n.Size || !slices.Equal(m.Map, n.Map) || !slices.Equal(m.Names, n.Names) {
				t.Fatalf("behind a loss of power it means %+v, %v; want %+v", m, e, n)
			}
			n.Head, n.Tail, n.Log, n.Entries = now.Head, now.Tail, ps, len(es)
		}
	}
}
