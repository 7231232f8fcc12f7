package mount_test

import (
	"fmt"
	"math/rand"
	"slices"
	"testing"

	"furrow/api"
	"furrow/journal"
	"furrow/layout"
	"furrow/mount"
)

// finished: what a machine answers when worker 0 does all that is left, and the others what they hold.
func finished(m *mount.Machine) (api.State, error) {
	for w := 0; !m.Done(); w++ {
		m.Step(w)
	}
	return m.Result()
}

// broken: a disk with some things changed, whose superblock and journal are good.
func broken(r *rand.Rand, d *disk) *disk {
	for {
		s := spoilt(r, d)
		for range r.Intn(4) {
			s = spoilt(r, s)
		}
		if _, e := journal.Overlay(s.b); e == api.OK {
			return s
		}
	}
}

// TestP12_5Again: Result may be asked again and again, each answer for itself.
func TestP12_5Again(t *testing.T) {
	m := machine(t, nine(t).b, 3)
	finished(m)
	for range 4 {
		st, err := m.Result()
		if err != nil || !sameState(st, nineMeans()) {
			t.Fatalf("%+v, %v", st, err)
		}
		spoil(st)
	}
	for _, f := range faults {
		d := family(t)
		f.spoil(d)
		m := machine(t, d.b, 2)
		finished(m)
		for range 3 {
			st, err := m.Result()
			told(t, f.what, st, err, api.CorruptError{Reason: f.e, Place: f.place})
			if c, is := err.(*api.CorruptError); is {
				c.Reason, c.Place = 0, -1
			}
		}
	}
}

// TestP12_5Order: each fault, and each two and three of them, with the inodes by one worker or by several: the first is told.
func TestP12_5Order(t *testing.T) {
	for i, a := range faults {
		for k, b := range faults[i:] {
			for _, c := range faults[i+k:] {
				d := family(t)
				c.spoil(d)
				b.spoil(d)
				a.spoil(d)
				for workers := 1; workers < 5; workers++ {
					what := fmt.Sprintf("%s, %s, %s, %d workers", a.what, b.what, c.what, workers)
					st, err := mount.Mount(d.b, workers, []int{3, 1, 1, 2})
					told(t, what, st, err, api.CorruptError{Reason: a.e, Place: a.place})
					st, err = finished(machine(t, d.b, workers))
					told(t, what, st, err, api.CorruptError{Reason: a.e, Place: a.place})
				}
			}
		}
	}
}

// TestP12_5LeastInode: of several broken inodes the least one's error, whoever found it and when.
func TestP12_5LeastInode(t *testing.T) {
	r := chance()
	for range 60 {
		d := formatted(t, small)
		inos := r.Perm(8)[:1+r.Intn(4)]
		for _, i := range inos {
			d.put(layout.SlotAt(1+i), 7)
		}
		want := api.CorruptError{Reason: api.ErrSlot, Place: 1 + slices.Min(inos)}
		workers := 1 + r.Intn(5)
		st, err := mount.Mount(d.b, workers, picks(r, r.Intn(9), workers))
		told(t, "slots", st, err, want)
	}
	// the lesser one's log is long, so its breach is found last
	d := chain(t)
	d.b[12*512+70] ^= 1
	d.put(layout.SlotAt(3), 7)
	st, err := mount.Mount(d.b, 2, []int{0, 0, 1, 0, 0, 0, 0, 0, 0, 0})
	told(t, "late", st, err, api.CorruptError{Reason: api.ErrEntry, Place: 2})
}

// TestP12_5Twice: pages with two owners, both of one worker or of two: the least of them.
func TestP12_5Twice(t *testing.T) {
	r := chance()
	for round := range 300 {
		d := formatted(t, small)
		d.log(1, api.KindDir, 1, []int{5}, add("a", 2), add("b", 3), add("c", 4))
		var taken []int
		for ino := 2; ino <= 4; ino++ {
			var es []api.Entry
			for i := range 1 + r.Intn(3) {
				page, count := 9+r.Intn(12), 1+r.Intn(3)
				es = append(es, write(4*i, count, page, 9000))
				for k := range count {
					taken = append(taken, page+k)
				}
			}
			d.log(ino, api.KindFile, 1, []int{4 + ino}, es...)
		}
		slices.Sort(taken)
		least := 0
		for i := len(taken) - 1; i > 0; i-- {
			if taken[i] == taken[i-1] {
				least = taken[i]
			}
		}
		for workers := 1; workers < 5; workers++ {
			st, err := mount.Mount(d.b, workers, picks(r, r.Intn(12), workers))
			answers(t, "pages", d.b, st, err)
			if least > 0 {
				told(t, fmt.Sprint("round ", round), st, err, api.CorruptError{Reason: api.ErrTwice, Place: least})
			}
		}
	}
}

// TestP12_5InodesFirst: a broken inode is told ahead of a page with two owners, also where its number is the greater one.
func TestP12_5InodesFirst(t *testing.T) {
	d := formatted(t, small)
	d.log(1, api.KindDir, 1, []int{5}, add("a", 2))
	d.log(2, api.KindFile, 1, []int{9}, write(0, 1, 5, 9))
	for _, workers := range []int{1, 2, 8} {
		st, err := mount.Mount(d.b, workers, nil)
		told(t, "page 5", st, err, api.CorruptError{Reason: api.ErrTwice, Place: 5})
	}
	d.put(layout.SlotAt(8), 7)
	for _, workers := range []int{1, 2, 8} {
		st, err := mount.Mount(d.b, workers, nil)
		told(t, "inode 8", st, err, api.CorruptError{Reason: api.ErrSlot, Place: 8})
	}
}

// TestP12_5TwiceOfOne: a page that one node names twice: in its log and its map, or twice in its map.
func TestP12_5TwiceOfOne(t *testing.T) {
	for _, c := range []struct {
		es   []api.Entry
		page int
	}{
		{[]api.Entry{write(0, 2, 9, 2000)}, 9},
		{[]api.Entry{write(0, 4, 8, 2000), write(9, 2, 8, 9000)}, 8},
		{[]api.Entry{write(0, 1, 20, 2000), write(9, 1, 20, 9000)}, 20},
		{[]api.Entry{write(0, 1, 20, 2000), write(9, 1, 20, 9000), write(1, 2, 18, 9000), write(7, 2, 19, 9000)}, 19},
	} {
		d := formatted(t, small)
		d.log(1, api.KindDir, 1, []int{5}, add("a", 2))
		d.log(2, api.KindFile, 1, []int{9}, c.es...)
		for _, workers := range []int{1, 2, 9} {
			st, err := mount.Mount(d.b, workers, nil)
			told(t, "of one", st, err, api.CorruptError{Reason: api.ErrTwice, Place: c.page})
		}
	}
}

// TestP12_6Picks: any picks, as many as one likes, and none.
func TestP12_6Picks(t *testing.T) {
	r := chance()
	d := chain(t)
	lists := [][]int{nil, {}, {0}, {-1}, wild, make([]int, 1000), slices.Repeat([]int{7}, 5000), picks(r, 3000, 64)}
	for _, workers := range []int{1, 2, 3, 8, 63, 64} {
		for _, list := range lists {
			st, err := mount.Mount(d.b, workers, list)
			if e := answers(t, fmt.Sprint(workers, " workers"), d.b, st, err); e != api.OK {
				t.Fatal(e)
			}
		}
	}
}

// TestP12_7OneAnswer: drawn images, broken ones and any bytes: what Replay answers, with any number of workers and any picks.
func TestP12_7OneAnswer(t *testing.T) {
	r := chance()
	seen := map[api.Errno]int{}
	asked := func(d *disk) {
		for range 3 {
			workers := 1 + r.Intn([]int{1, 4, 9, 64}[r.Intn(4)])
			st, err := mount.Mount(d.b, workers, picks(r, r.Intn(90), workers))
			seen[answers(t, "Mount", d.b, st, err)]++
		}
	}
	for round := range 150 {
		sh := []api.Shape{small, middling}[round%2]
		if round%40 == 0 {
			sh = large
		}
		d, want := drawn(t, r, sh, 14)
		if st, err := mount.Mount(d.b, 1+round%64, nil); err != nil || !sameState(st, want) {
			t.Errorf("drawn: %+v, %v; want %+v", st, err, want)
		}
		if r.Intn(4) == 0 {
			d.pending(r, tableWords(r, d.sh, 1+r.Intn(8))...)
		}
		asked(d)
		for range 12 {
			s := spoilt(r, d)
			for range r.Intn(3) {
				s = spoilt(r, s)
			}
			asked(s)
		}
	}
	for _, e := range []api.Errno{api.OK, api.ErrUndo, api.ErrSlot, api.ErrHeader, api.ErrEntry, api.ErrLog, api.ErrMeaning, api.ErrTwice, api.ErrRoot, api.ErrHang, api.ErrCount, api.ErrLost} {
		if seen[e] < 3 {
			t.Errorf("%v came %d times: %v", e, seen[e], seen)
		}
	}
}

// TestP12_7AnyBytes: bytes without sense, behind a superblock or not.
func TestP12_7AnyBytes(t *testing.T) {
	r := chance()
	for round := range 200 {
		b := make([]byte, r.Intn(30000))
		r.Read(b)
		refused(t, "any bytes", b, 1+round%64, &api.CorruptError{Reason: api.ErrSuper})
		sh := []api.Shape{small, middling}[round%2]
		d := &disk{t, sh, make([]byte, 512*sh.Pages)}
		r.Read(d.b)
		d.super()
		refused(t, "any bytes behind a superblock", d.b, 1+round%64, &api.CorruptError{Reason: api.ErrUndo, Place: 512})
		d.put(512, 0)
		play(t, d, 1+round%64, picks(r, r.Intn(30), 64))
		for ino := 1; ino <= sh.Inodes; ino++ {
			d.slot(ino, api.Slot{Kind: 2 - min(1, r.Intn(2)*(ino-1)), Links: 1, Head: 5 + r.Intn(sh.Pages), Tail: 512*(5+r.Intn(sh.Pages)) + 64*(2+r.Intn(7))})
		}
		play(t, d, 1+round%64, picks(r, r.Intn(30), 64))
		st, err := mount.Mount(d.b, 1+round%64, nil)
		answers(t, "any logs", d.b, st, err)
	}
}

// TestP12_7Most: an image with as many pieces as there can be: all pages but one are gone over for their owner, and every inode breaks on another page.
func TestP12_7Most(t *testing.T) {
	d := formatted(t, small)
	var pages []int
	var es []api.Entry
	for p := small.Data; p < small.Pages; p++ {
		pages = append(pages, p)
		es = append(es, slices.Repeat([]api.Entry{sized(9)}, 7)...)
	}
	s := d.log(5, api.KindFile, 1, pages, es...)
	for ino := 1; ino <= 8; ino++ {
		d.slot(ino, s)
	}
	m := machine(t, d.b, 3)
	finished(m)
	if m.Steps() != 8+7+19 || m.Steps() != 2*8+24-5-1 {
		t.Errorf("%d pieces", m.Steps())
	}
	play(t, d, 3, []int{4, 4, 4, 4, 0, 0, 0, 0, 0, 0, 0, 1, 1, 1, 1, 1, 1, 1})
}
