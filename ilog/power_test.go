package ilog_test

import (
	"fmt"
	"math/rand"
	"slices"
	"testing"

	"furrow/api"
	"furrow/ilog"
	"furrow/pmem"
)

// TestP6_7Batches: logs that grow batch by batch; behind each Walk reads all of it, and the one ahead of the commit too.
func TestP6_7Batches(t *testing.T) {
	r := chance()
	for round := range 30 {
		sh := []api.Shape{small, middling, large}[round%3]
		d, l := made(t, r, sh, 1+r.Intn(sh.Inodes), 1+r.Intn(2))
		for {
			n := r.Intn(17)
			if len(l.pages)+ilog.Need(l.slot.Tail, n) > min(30, sh.Pages-sh.Data) {
				break
			}
			before := l
			l = l.grown(t, r, d, sh, n)
			if got, e := opened(d.View(), l.ino); got != l.slot || e != api.OK {
				t.Fatalf("the line opens as %v, %v; want %v", got, e, l.slot)
			}
			walks(t, "behind a batch", d.View(), sh, l.ino, l.slot, l.entries, l.pages)
			walks(t, "the log ahead of it", d.View(), sh, l.ino, before.slot, before.entries, before.pages)
		}
	}
}

// TestP6_7EveryLength: each number of entries behind each number of them.
func TestP6_7EveryLength(t *testing.T) {
	r := chance()
	for first := range 16 {
		for second := range 24 {
			d, l := made(t, r, small, 2, api.KindFile)
			l = l.grown(t, r, d, small, first).grown(t, r, d, small, second)
			if len(l.entries) != first+second || len(l.pages) != (first+second+6)/7 {
				t.Fatalf("%d and %d entries: %v", first, second, l)
			}
			walks(t, "two batches", d.View(), small, 2, l.slot, l.entries, l.pages)
		}
	}
}

// TestP6_7SeveralLogs: logs of several inodes on one device that grow in turn have nothing to do with one another.
func TestP6_7SeveralLogs(t *testing.T) {
	r := chance()
	d := blank(t, middling)
	logs := make([]log, 5)
	var used []int
	for i := range logs {
		logs[i] = log{ino: 3 + 4*i, slot: file(0, 0)}
	}
	for range 60 {
		k := r.Intn(len(logs))
		n := 1 + r.Intn(9)
		pages := drawnPages(r, middling, ilog.Need(logs[k].slot.Tail, n), used...)
		if len(pages) < ilog.Need(logs[k].slot.Tail, n) {
			break
		}
		used = append(used, pages...)
		logs[k] = logs[k].more(t, d, middling, drawn(r, middling, n), pages)
		for _, l := range logs {
			walks(t, "one of several", d.View(), middling, l.ino, l.slot, l.entries, l.pages)
		}
	}
	if len(d.Doubts()) != 0 {
		t.Errorf("doubts: %v", d.Doubts())
	}
}

// TestP6_7BehindAnAppendThatIsLeft: entries that were written and not committed are written over by the next ones.
func TestP6_7BehindAnAppendThatIsLeft(t *testing.T) {
	r := chance()
	for range 100 {
		d, l := made(t, r, small, 2, api.KindFile)
		l = l.grown(t, r, d, small, r.Intn(12))
		for range 3 {
			n := r.Intn(20)
			appends(t, d, small, 2, l.slot, len(l.entries), drawn(r, small, n), drawnPages(r, small, needs(l.slot.Tail, n), l.pages...))
			walks(t, "the log as it was", d.View(), small, 2, l.slot, l.entries, l.pages)
		}
		l = l.grown(t, r, d, small, r.Intn(12))
		walks(t, "behind Appends that are left", d.View(), small, 2, l.slot, l.entries, l.pages)
	}
}

// everyCrash: what a loss of power may leave of the device: all of it, if that is at most most; else the two ends, each doubt alone kept and alone lost, and some that are drawn.
func everyCrash(r *rand.Rand, d *pmem.Device, most int) [][]byte {
	doubts := d.Doubts()
	all := 1
	for _, w := range doubts {
		all = min(all*(len(w.News)+1), most+1)
	}
	var list [][]byte
	choices := make([]int, len(doubts))
	if all <= most {
		for range all {
			list = append(list, d.Crash(choices))
			for k := range choices { // the next number of the counter
				if choices[k]++; choices[k] <= len(doubts[k].News) {
					break
				}
				choices[k] = 0
			}
		}
		return list
	}
	list = append(list, d.Crash(nil), d.View())
	for k := range doubts {
		choices := make([]int, len(doubts))
		choices[k] = -1
		list = append(list, d.Crash(choices))
		for j := range choices {
			choices[j] = -1
		}
		choices[k] = 0
		list = append(list, d.Crash(choices))
	}
	for range most {
		for k := range choices {
			choices[k] = r.Int()
		}
		list = append(list, d.Crash(choices))
	}
	return list
}

// allOrNothing: 6.8 of a batch behind a log on a device that has these bytes, cut behind each number of steps.
func allOrNothing(t *testing.T, r *rand.Rand, b []byte, sh api.Shape, old log, entries []api.Entry, pages []int, most int) {
	t.Helper()
	acts, slot := appending(old.ino, old.slot, len(old.entries), entries, pages)
	ahead := len(acts)
	acts = append(acts, committing(old.ino, old.slot, slot)...)
	all := joined(old.entries, numbered(len(old.entries), entries))
	chain := joined(old.pages, pages)
	for cut := 0; cut <= len(acts); cut++ {
		d := load(t, b)
		d.Arm(cut)
		to, e := ilog.Append(d, sh, old.ino, old.slot, len(old.entries), entries, pages)
		if e == api.OK {
			e = ilog.Commit(d, old.ino, old.slot, to)
		}
		if (e == api.OK) != (cut == len(acts)) {
			t.Fatalf("cut at %d of %d steps: %v", cut, len(acts), e)
		}
		for _, left := range everyCrash(r, d, most) {
			now, no := opened(left, old.ino)
			what := fmt.Sprintf("%v and %d entries, cut at %d of %d steps: the line opens as %v, %v", old.slot, len(entries), cut, len(acts), now, no)
			switch {
			case no != api.OK || now != old.slot && now != slot:
				t.Fatal(what)
			case cut <= ahead && now != old.slot, e == api.OK && now != slot:
				t.Fatal(what)
			case now == old.slot:
				walks(t, what, left, sh, old.ino, now, old.entries, old.pages)
			default:
				walks(t, what, left, sh, old.ino, now, all, chain)
			}
		}
	}
}

// TestP6_8EveryCrash: few entries, and all that a loss of power may leave of the words.
func TestP6_8EveryCrash(t *testing.T) {
	r := chance()
	for _, first := range []int{0, 1, 6, 7, 13} {
		d, l := made(t, r, small, 2, api.KindFile)
		l = l.grown(t, r, d, small, first)
		pages := drawnPages(r, small, needs(l.slot.Tail, 1), l.pages...)
		allOrNothing(t, r, d.View(), small, l, drawn(r, small, 1), pages, 1<<11)
	}
}

// TestP6_8ManyEntries: batches over several pages, cut everywhere.
func TestP6_8ManyEntries(t *testing.T) {
	r := chance()
	for _, first := range []int{0, 3, 7} {
		for _, n := range []int{2, 8, 12} {
			d, l := made(t, r, small, 8, api.KindDir)
			l = l.grown(t, r, d, small, first)
			pages := drawnPages(r, small, needs(l.slot.Tail, n), l.pages...)
			allOrNothing(t, r, d.View(), small, l, drawn(r, small, n), pages, 2)
		}
	}
}

// TestP6_8AgainAndAgain: a log that grows under losses of power, one behind the other: it has all batches that were committed, and one more or not.
func TestP6_8AgainAndAgain(t *testing.T) {
	r := chance()
	for range 20 {
		d, l := made(t, r, small, 3, api.KindFile)
		b := d.View()
		for range 40 {
			n := 1 + r.Intn(5)
			pages := drawnPages(r, small, needs(l.slot.Tail, n), l.pages...)
			if len(pages) < needs(l.slot.Tail, n) {
				break
			}
			entries := drawn(r, small, n)
			_, slot := appending(3, l.slot, len(l.entries), entries, pages)
			d := load(t, b)
			d.Arm(r.Intn(70))
			to, e := ilog.Append(d, small, 3, l.slot, len(l.entries), entries, pages)
			if e == api.OK {
				ilog.Commit(d, 3, l.slot, to)
			}
			crashes := everyCrash(r, d, 8)
			b = crashes[r.Intn(len(crashes))]
			now, no := opened(b, 3)
			if no != api.OK || now != l.slot && now != slot {
				t.Fatalf("the line opens as %v, %v", now, no)
			}
			if now != l.slot {
				l = log{3, now, joined(l.entries, numbered(len(l.entries), entries)), joined(l.pages, pages)}
			}
			walks(t, "behind a loss of power", b, small, 3, l.slot, l.entries, l.pages)
		}
	}
}

// TestP6_8OtherLogs: what is cut in one log is not seen in another.
func TestP6_8OtherLogs(t *testing.T) {
	r := chance()
	d := blank(t, small)
	one := log{ino: 2, slot: file(0, 0)}.more(t, d, small, sizes(9), []int{5, 6})
	two := log{ino: 3, slot: file(0, 0)}.more(t, d, small, sizes(3), []int{7})
	b := d.View()
	acts, _ := appending(3, two.slot, 3, sizes(9), []int{9})
	for cut := range len(acts) + 4 {
		d := load(t, b)
		d.Arm(cut)
		if s, e := ilog.Append(d, small, 3, two.slot, 3, sizes(9), []int{9}); e == api.OK {
			ilog.Commit(d, 3, two.slot, s)
		}
		for _, left := range everyCrash(r, d, 4) {
			walks(t, "another log", left, small, 2, one.slot, one.entries, one.pages)
			if !slices.Equal(left[:2048+64*2], b[:2048+64*2]) {
				t.Fatal("what stands ahead of the slot was changed")
			}
		}
	}
}
