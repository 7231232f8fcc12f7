package journal_test

import (
	"bytes"
	"math/rand"
	"testing"

	"furrow/api"
	"furrow/journal"
	"furrow/layout"
	"furrow/pmem"
)

// everyCrash: what a loss of power may leave of the device: all of it, if that is at most most; else the two ends, and some that are drawn.
func everyCrash(r *rand.Rand, d *pmem.Device, most int) [][]byte {
	doubts := d.Doubts()
	all := 1
	for _, w := range doubts {
		all = min(all*(len(w.News)+1), most+1)
	}
	var list [][]byte
	choices := make([]int, len(doubts))
	if all <= most {
		for range all {
			list = append(list, d.Crash(choices))
			for k := range choices { // the next number of the counter
				choices[k]++
				if choices[k] <= len(doubts[k].News) {
					break
				}
				choices[k] = 0
			}
		}
		return list
	}
	list = append(list, d.Crash(nil), d.View())
	for len(list) < most {
		for k := range choices {
			choices[k] = r.Int()
		}
		list = append(list, d.Crash(choices))
	}
	return list
}

// outside: an image's bytes without those of the journal's page.
func outside(b []byte) []byte { return append(bytes.Clone(b[:512]), b[1024:]...) }

// changed: the image as it is with the changes.
func changed(b []byte, list []api.Change) []byte {
	b = bytes.Clone(b)
	for _, c := range list {
		for i := range 8 {
			b[c.At+i] = byte(c.New >> (8 * i))
		}
	}
	return b
}

// recovered: whether Recover on what a crash left gives the bytes that it must, outside of the journal's page, and an empty journal: whole, and cut behind each of its steps and begun again, deep times over.
func recovered(t *testing.T, r *rand.Rand, left, want []byte, most, deep int) {
	t.Helper()
	d := load(t, left)
	list, _ := journal.Pending(left)
	if n, e := journal.Recover(d); n != len(list) || e != api.OK {
		t.Fatalf("Recover = %d, %v with %v pending", n, e, list)
	}
	v := d.View()
	if u, e := layout.OpenUndo(v[512:1024]); len(u) != 0 || e != api.OK || len(d.Doubts()) != 0 {
		t.Fatalf("behind Recover: the journal has %v, %v; doubts %v", u, e, d.Doubts())
	}
	if !bytes.Equal(outside(v), want) {
		t.Fatalf("behind Recover of %v the bytes are others", list)
	}
	if deep == 0 {
		return
	}
	for cut := range d.Steps() {
		again := load(t, left)
		again.Arm(cut)
		if n, e := journal.Recover(again); n != 0 || e != api.ErrDead {
			t.Fatalf("Recover with %d steps left = %d, %v", cut, n, e)
		}
		for _, b := range everyCrash(r, again, most) {
			recovered(t, r, b, want, most, deep-1)
		}
	}
}

// asOne: P4.7 of a Commit on a device that has these bytes.
func asOne(t *testing.T, r *rand.Rand, sh api.Shape, b []byte, list []api.Change, most, deep int) {
	t.Helper()
	was, new := outside(b), outside(changed(b, list))
	acts, fifth := committing(load(t, b), list)
	for cut := 0; cut <= len(acts); cut++ {
		d := load(t, b)
		d.Arm(cut)
		e := journal.Commit(d, sh, list)
		for _, left := range everyCrash(r, d, most) {
			o, f := journal.Overlay(left)
			if f != api.OK {
				t.Fatalf("%v cut at %d: Overlay: %v", list, cut, f)
			}
			got := outside(o)
			switch {
			case !bytes.Equal(got, was) && !bytes.Equal(got, new):
				t.Fatalf("%v cut at %d: some words are what they were, others are new, or bytes elsewhere differ", list, cut)
			case e == api.OK && !bytes.Equal(got, new):
				t.Fatalf("%v: Commit answered OK, and its changes are lost", list)
			case cut <= fifth && !bytes.Equal(got, was):
				t.Fatalf("%v cut at %d, ahead of the changes: they are seen", list, cut)
			}
			recovered(t, r, left, got, most, deep)
		}
	}
}

func TestP4_7EveryCut(t *testing.T) {
	r := chance()
	for _, list := range [][]api.Change{
		{{At: 2048, New: 7}},
		{{At: 2512, New: 0}},
		{{At: 2064, New: 1}, {At: 2056, New: 2}},
		{{At: 2048, New: 1}, {At: 2512, New: 2}},
	} {
		asOne(t, r, small, image(small), list, 1<<10, 2)
		asOne(t, r, small, filled(r, small), list, 1<<10, 1)
	}
}

func TestP4_7EveryCrash(t *testing.T) {
	r := chance()
	asOne(t, r, small, filled(r, small), changes(2048, 2112, 2120), 1<<10, 1)
	asOne(t, r, small, filled(r, small), changes(2064, 2056, 2048, 2512), 1<<10, 0)
}

func TestP4_7ManyChanges(t *testing.T) {
	r := chance()
	for _, list := range sketched {
		asOne(t, r, small, filled(r, small), list, 10, 1)
	}
	for round := range 8 {
		b := filled(r, middling)
		asOne(t, r, middling, b, drawn(r, middling, b, 1+round%8), 8, 1)
	}
}

// TestP4_7DeepDown: a recovery that is cut again and again, at drawn steps.
func TestP4_7DeepDown(t *testing.T) {
	r := chance()
	for round := range 40 {
		b := filled(r, small)
		list := drawn(r, small, b, 1+round%8)
		d := load(t, b)
		d.Arm(stepsOf(list) - 4) // all changes are stored and flushed
		journal.Commit(d, small, list)
		left := everyCrash(r, d, 20)[r.Intn(2)]
		for range 50 {
			d = load(t, left)
			d.Arm(r.Intn(12))
			journal.Recover(d)
			crashes := everyCrash(r, d, 20)
			left = crashes[r.Intn(len(crashes))]
			o, e := journal.Overlay(left)
			if e != api.OK || !bytes.Equal(outside(o), outside(b)) {
				t.Fatalf("%v: amid a recovery the overlay is another: %v", list, e)
			}
		}
		recovered(t, r, left, outside(b), 20, 1)
	}
}

// TestP4_7BehindOthers: the records of an earlier commit stand in the page still.
func TestP4_7BehindOthers(t *testing.T) {
	r := chance()
	d := load(t, filled(r, small))
	for round := range 8 {
		commits(t, d, small, drawn(r, small, d.View(), 1+r.Intn(8)))
		asOne(t, r, small, d.View(), drawn(r, small, d.View(), 1+round%8), 8, 1)
	}
	// the same changes again: its records differ from the earlier ones in what the words were
	list := changes(2048, 2120)
	commits(t, d, small, list)
	asOne(t, r, small, d.View(), list, 1<<10, 1)
}

// TestP4_7BehindARecovery: a commit that was rolled back may be done again.
func TestP4_7BehindARecovery(t *testing.T) {
	r := chance()
	b := filled(r, small)
	list := changes(2048, 2120)
	_, fifth := committing(load(t, b), list)
	d := load(t, b)
	d.Arm(fifth + 1)
	journal.Commit(d, small, list)
	d = load(t, d.View())
	recovers(t, "a cut commit", d, 2, api.OK)
	asOne(t, r, small, d.View(), list, 1<<10, 1)
}
