package mount_test

import (
	"testing"

	"furrow/api"
	"furrow/layout"
)

// TestP12_2First: at first nobody holds an inode, and nothing has been done.
func TestP12_2First(t *testing.T) {
	for _, workers := range []int{1, 2, 17, 64} {
		d := nine(t)
		m := machine(t, d.b, workers)
		if !modelOf(d, workers).asModel(m) {
			t.Errorf("%d workers", workers)
		}
		st, err := m.Result()
		plain(t, "at first", st, err, api.ErrGoing)
		if m.Step(5); workers > 5 && m.Holds(5) != 1 {
			t.Errorf("the first inode taken is %d", m.Holds(5))
		}
	}
}

// TestP12_2Numbers: a worker's number may be any int.
func TestP12_2Numbers(t *testing.T) {
	d := nine(t)
	for workers := 1; workers <= 64; workers++ {
		for _, w := range append(wild, 0, 1, 7, 63, 64, -1*workers, workers, 3*workers-1) {
			m, like := machine(t, d.b, workers), modelOf(d, workers)
			if m.Step(w) != like.step(w) || !like.asModel(m) || m.Holds(w) != 1 || like.holds(w) != 1 {
				t.Errorf("%d workers: Step(%d): Holds(%d) = %d", workers, w, like.meant(w), m.Holds(like.meant(w)))
			}
		}
	}
}

// play does Step after Step, as many as there are picks and then till it is done, and holds the machine against the model behind each.
func play(t *testing.T, d *disk, workers int, list []int) {
	t.Helper()
	m, like := machine(t, d.b, workers), modelOf(d, workers)
	for i := 0; i < len(list) || !like.done(); i++ {
		w := i
		if i < len(list) {
			w = list[i]
		}
		if st, err := m.Result(); !like.done() {
			plain(t, "while it goes on", st, err, api.ErrGoing)
		}
		if got, want := m.Step(w), like.step(w); got != want || !like.asModel(m) || m.Holds(w) != like.holds(w) {
			t.Fatalf("%d workers, picks %v: Step(%d), the %dth: %v, want %v; Steps %d, want %d; holds %d, want %d; done %v, want %v", workers, list, w, i, got, want, m.Steps(), like.steps, m.Holds(w), like.holds(w), m.Done(), like.done())
		}
	}
	if m.Steps() != pieces(d) || m.Steps() > 2*d.sh.Inodes+d.sh.Pages-d.sh.Data {
		t.Errorf("%d pieces, want %d", m.Steps(), pieces(d))
	}
	for w := -1; w <= workers; w++ {
		if m.Step(w) || m.Holds(w) != 0 {
			t.Errorf("a piece behind the last one")
		}
	}
	st, err := m.Result()
	answers(t, "Result", d.b, st, err)
}

// TestP12_3Drawn: drawn images and broken ones, with drawn picks.
func TestP12_3Drawn(t *testing.T) {
	r := chance()
	for round := range 120 {
		sh := []api.Shape{small, middling}[round%2]
		if round%40 == 39 {
			sh = large
		}
		d, _ := drawn(t, r, sh, 14)
		if r.Intn(4) == 0 {
			d.pending(r, tableWords(r, d.sh, 1+r.Intn(8))...)
		}
		workers := 1 + r.Intn([]int{1, 3, 8, 64}[r.Intn(4)])
		play(t, d, workers, picks(r, r.Intn(200), workers))
		for range 6 {
			s := broken(r, d)
			workers := 1 + r.Intn(6)
			play(t, s, workers, picks(r, r.Intn(60), workers))
		}
	}
}

// TestP12_3Faults: all faults at once, each with its own pieces: none ends the work of the others.
func TestP12_3Faults(t *testing.T) {
	for i := range faults {
		d := family(t)
		for k := len(faults) - 1; k >= i; k-- {
			faults[k].spoil(d)
		}
		for workers := 1; workers < 10; workers++ {
			play(t, d, workers, nil)
			play(t, d, workers, []int{3, 3, 3, -1, -1, 0, 2, 2, 2, 2, 2})
		}
	}
}

// TestP12_3Slots: what is looked at when an inode is taken: slots that are broken, free, or have an empty log are through with that.
func TestP12_3Slots(t *testing.T) {
	tail := 5*512 + 128
	for _, c := range []struct {
		what  string
		spoil func(d *disk)
		holds int
		e     api.Errno
	}{
		{"free", func(d *disk) { d.slot(3, api.Slot{}) }, 0, api.OK},
		{"free, with other words", func(d *disk) { d.slot(3, api.Slot{}); d.put(layout.SlotAt(3)+8, 9); d.put(layout.SlotAt(3)+16, 9) }, 0, api.OK},
		{"an empty log", func(d *disk) { d.slot(3, api.Slot{Kind: api.KindFile, Links: 1}) }, 0, api.ErrCount},
		{"an empty log with a head", func(d *disk) {
			d.slot(3, api.Slot{Kind: api.KindFile, Links: 1})
			d.hold(layout.SlotAt(3)+8, 9)
		}, 0, api.ErrCount},
		{"no kind", func(d *disk) { d.slot(3, api.Slot{Kind: 3, Links: 1}) }, 0, api.ErrSlot},
		{"no links", func(d *disk) { d.slot(3, api.Slot{Kind: api.KindFile}) }, 0, api.ErrSlot},
		{"not sealed", func(d *disk) { d.put(layout.SlotAt(3), 257) }, 0, api.ErrSlot},
		{"a tail in a header", func(d *disk) { d.slot(3, api.Slot{Kind: api.KindFile, Links: 1, Head: 5, Tail: tail - 64}) }, 0, api.ErrSlot},
		{"a head behind the device", func(d *disk) { d.slot(3, api.Slot{Kind: api.KindFile, Links: 1, Head: 24, Tail: tail}) }, 0, api.ErrSlot},
		{"a tail behind the device", func(d *disk) { d.slot(3, api.Slot{Kind: api.KindFile, Links: 1, Head: 5, Tail: 24*512 + 128}) }, 0, api.ErrSlot},
		{"a head in the table", func(d *disk) { d.slot(3, api.Slot{Kind: api.KindFile, Links: 1, Head: 4, Tail: tail}) }, 0, api.ErrSlot},
		{"a log", func(d *disk) { d.slot(3, api.Slot{Kind: api.KindFile, Links: 1, Head: 5, Tail: tail}) }, 3, api.ErrHeader},
		{"the device's last page", func(d *disk) { d.slot(3, api.Slot{Kind: api.KindFile, Links: 1, Head: 23, Tail: 24 * 512}) }, 3, api.ErrHeader},
	} {
		d := formatted(t, small)
		c.spoil(d)
		m := machine(t, d.b, 2)
		m.Step(0)
		m.Step(0)
		if !m.Step(1) || m.Holds(1) != c.holds || m.Steps() != 3 {
			t.Errorf("%s: holds %d, want %d", c.what, m.Holds(1), c.holds)
		}
		for !m.Done() {
			m.Step(m.Steps())
		}
		st, err := m.Result()
		if c.e == api.OK {
			answers(t, c.what, d.b, st, err)
			continue
		}
		told(t, c.what, st, err, api.CorruptError{Reason: c.e, Place: 3})
	}
}

// TestP12_3Areas: a head or a tail in the table of a device with a larger one.
func TestP12_3Areas(t *testing.T) {
	for _, s := range []api.Slot{{Kind: 1, Links: 1, Head: 6, Tail: 7*512 + 128}, {Kind: 1, Links: 1, Head: 7, Tail: 7 * 512}} {
		d := formatted(t, middling)
		d.slot(9, s)
		play(t, d, 3, nil)
		m := machine(t, d.b, 1)
		for m.Step(0) {
		}
		st, err := m.Result()
		told(t, "in the table", st, err, api.CorruptError{Reason: api.ErrSlot, Place: 9})
		if m.Steps() != middling.Inodes {
			t.Errorf("%d pieces", m.Steps())
		}
	}
}

// chain: a file 2 with seventeen entries in the pages 9, 6 and 12.
func chain(t *testing.T) *disk {
	t.Helper()
	d := formatted(t, small)
	d.log(1, api.KindDir, 1, []int{5}, add("f", 2))
	es := []api.Entry{write(0, 2, 20, 1000)}
	for i := range 16 {
		es = append(es, sized(600+i))
	}
	d.log(2, api.KindFile, 1, []int{9, 6, 12}, es...)
	return d
}

// TestP12_3Pages: what is asked of a page of a log, page by page: on which page the work on it ends, and with what.
func TestP12_3Pages(t *testing.T) {
	numbered := func(e api.Entry, seq int) api.Entry {
		e.Seq = uint64(seq)
		return e
	}
	for _, c := range []struct {
		what  string
		spoil func(d *disk)
		pages int
		e     api.Errno
	}{
		{"as it is", func(d *disk) {}, 3, api.OK},
		{"an owner", func(d *disk) { d.hold(6*512+8, 3) }, 2, api.ErrHeader},
		{"the last page's owner", func(d *disk) { d.hold(12*512+8, 1) }, 3, api.ErrHeader},
		{"no owner", func(d *disk) { d.put(9*512+8, 5) }, 1, api.ErrHeader},
		{"a next page in the table", func(d *disk) { d.hold(6*512, 4) }, 2, api.ErrHeader},
		{"a next page behind the device", func(d *disk) { d.hold(9*512, 24) }, 1, api.ErrHeader},
		{"a next page that isn't sealed", func(d *disk) { d.put(9*512, 6) }, 1, api.ErrHeader},
		{"a next page of another", func(d *disk) { d.hold(9*512, 5) }, 2, api.ErrHeader},
		{"a next page of zeros", func(d *disk) { d.hold(6*512, 15) }, 3, api.ErrHeader},
		{"no next page", func(d *disk) { d.hold(6*512, 0) }, 2, api.ErrLog},
		{"no next page, all zeros", func(d *disk) { d.put(6*512, 0) }, 2, api.ErrLog},
		{"itself as the next page", func(d *disk) { d.hold(6*512, 6) }, 2, api.ErrLog},
		{"the first page again", func(d *disk) { d.hold(6*512, 9) }, 2, api.ErrLog},
		{"a page too early", func(d *disk) { d.hold(9*512, 12) }, 2, api.ErrLog},
		{"a last page with a next one", func(d *disk) { d.hold(12*512, 9) }, 3, api.OK},
		{"a last page with a next one that can't be", func(d *disk) { d.put(12*512, 9) }, 3, api.OK},
		{"an entry", func(d *disk) { d.b[6*512+64*7+3] ^= 1 }, 2, api.ErrEntry},
		{"an entry of a page that is another's", func(d *disk) { d.line(9, 3, numbered(write(0, 1, 5, 9), 3)) }, 3, api.ErrTwice},
		{"an entry of pages behind the device", func(d *disk) { d.line(9, 3, numbered(write(0, 2, 23, 9), 3)) }, 1, api.ErrEntry},
		{"an entry of no inode", func(d *disk) { d.line(6, 1, numbered(add("x", 9), 8)) }, 2, api.ErrEntry},
		{"an entry's number", func(d *disk) { d.line(6, 1, numbered(sized(9), 1)) }, 2, api.ErrLog},
		{"an entry's number, and no entry behind it", func(d *disk) { d.line(6, 1, numbered(sized(9), 9)); d.b[6*512+130] ^= 1 }, 2, api.ErrLog},
		{"no entry, and a wrong next page", func(d *disk) { d.b[6*512+130] ^= 1; d.hold(6*512, 9) }, 2, api.ErrEntry},
		{"no entry, and a broken next page", func(d *disk) { d.b[6*512+130] ^= 1; d.hold(6*512, 99) }, 2, api.ErrHeader},
		{"the last entry", func(d *disk) { d.b[12*512+64*3] ^= 1 }, 3, api.ErrEntry},
		{"behind the last entry", func(d *disk) { d.b[12*512+64*4] ^= 1 }, 3, api.OK},
		{"no meaning at the beginning", func(d *disk) { d.line(9, 2, numbered(drop("x"), 2)) }, 3, api.ErrMeaning},
		{"no meaning at the end", func(d *disk) { d.line(12, 3, numbered(add("x", 3), 17)) }, 3, api.ErrMeaning},
		{"no meaning, and no entry behind it", func(d *disk) { d.line(9, 2, numbered(drop("x"), 2)); d.b[12*512+64*3] ^= 1 }, 3, api.ErrEntry},
		{"a full last page", func(d *disk) {
			d.slot(2, api.Slot{Kind: api.KindFile, Links: 1, Head: 9, Tail: 7 * 512})
		}, 2, api.OK},
	} {
		d := chain(t)
		c.spoil(d)
		m := machine(t, d.b, 2)
		for m.Holds(1) == 0 {
			m.Step(0) // the root's log
			m.Step(0)
			m.Step(1)
		}
		n := 0
		for m.Holds(1) == 2 {
			m.Step(-1)
			n++
		}
		if n != c.pages {
			t.Errorf("%s: %d pages were gone over, want %d", c.what, n, c.pages)
		}
		play(t, d, 2, nil)
		st, err := finished(m)
		place := 2
		if c.e == api.ErrTwice {
			place = 5
		}
		if c.e != api.OK {
			told(t, c.what, st, err, api.CorruptError{Reason: c.e, Place: place})
		} else if err != nil {
			t.Errorf("%s: %v", c.what, err)
		}
	}
}

// TestP12_3Area: entries and next pages in the table of a device with a larger one.
func TestP12_3Area(t *testing.T) {
	d := formatted(t, middling)
	d.log(1, api.KindDir, 1, []int{7}, add("f", 2))
	d.log(2, api.KindFile, 1, []int{8}, write(0, 1, 6, 9))
	st, err := finished(machine(t, d.b, 5))
	told(t, "a page of the table", st, err, api.CorruptError{Reason: api.ErrEntry, Place: 2})
	d.log(2, api.KindFile, 1, []int{8}, write(0, 16, 6, 9))
	st, err = finished(machine(t, d.b, 5))
	told(t, "pages from the table's last on", st, err, api.CorruptError{Reason: api.ErrEntry, Place: 2})
	d.log(2, api.KindFile, 1, []int{8}, write(0, 1, 59, 9))
	d.log(1, api.KindDir, 1, []int{7}, add("f", 25))
	st, err = finished(machine(t, d.b, 5))
	told(t, "an inode that isn't there", st, err, api.CorruptError{Reason: api.ErrEntry, Place: 1})
}

// TestP12_4Done: done is told just when no worker has a piece, also where one works on while all others have none.
func TestP12_4Done(t *testing.T) {
	m := machine(t, chain(t).b, 64)
	m.Step(7)
	for range 7 {
		m.Step(9) // 2 is held by worker 9, and gone over
	}
	for w := range 10 {
		m.Step(20 + w)
	}
	if m.Done() || m.Holds(7) != 1 || m.Step(8) || !m.Step(7) || m.Holds(7) != 0 || !m.Done() {
		t.Errorf("holds %d, done %v", m.Holds(7), m.Done())
	}
	for w := range 64 {
		if m.Step(w) {
			t.Errorf("worker %d has a piece", w)
		}
	}
}
