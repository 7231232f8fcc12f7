package ilog_test

import (
	"fmt"
	"math/rand"
	"slices"
	"testing"

	"furrow/api"
	"furrow/codec"
	"furrow/ilog"
	"furrow/layout"
	"furrow/pmem"
)

// slots: good ones of all kinds, and such as aren't.
func slots() []api.Slot {
	list := []api.Slot{{}, {Links: 1}, {Head: 5}, {Tail: 2688}, {Kind: 3, Links: 1}, {Kind: -1, Links: 1}, {Kind: api.KindFile}, {Kind: api.KindFile, Links: 101}, {Kind: api.KindDir, Links: 2}}
	for _, kind := range []int{api.KindFile, api.KindDir} {
		for _, links := range []int{1, 2, 100} {
			for _, head := range []int{0, 4, 5, 9, 1023, 1024} {
				for _, tail := range []int{0, 2560, 2624, 2688, 2752, 3072, 3136, 524288, 524352} {
					list = append(list, api.Slot{Kind: kind, Links: links, Head: head, Tail: tail})
				}
			}
		}
	}
	return list
}

// differing: 6.4 in its words.
func differing(ino int, from, to api.Slot) []api.Change {
	at := 2048 + 64*(ino-1)
	var list []api.Change
	if from.Kind != to.Kind || from.Links != to.Links {
		list = append(list, api.Change{At: at, New: codec.Seal(at, uint32(to.Kind+256*to.Links))})
	}
	use, was := to.Kind != api.KindFree, from.Kind != api.KindFree
	if use && to.Tail > 0 && (!was || from.Tail == 0 || from.Head != to.Head) {
		list = append(list, api.Change{At: at + 8, New: codec.Seal(at+8, uint32(to.Head))})
	}
	if use && (!was || from.Tail != to.Tail) {
		list = append(list, api.Change{At: at + 16, New: codec.Seal(at+16, uint32(to.Tail))})
	}
	return list
}

func TestP6_4EveryPair(t *testing.T) {
	for _, ino := range []int{1, 2, 9, 256} {
		for _, from := range slots() {
			for _, to := range slots() {
				var want []api.Change
				no := api.ErrSlot
				if isSlot(from) && isSlot(to) {
					want, no = differing(ino, from, to), api.OK
				}
				got, e := ilog.Changes(ino, from, to)
				if e != no || !slices.Equal(got, want) || len(got) == 0 && got != nil {
					t.Fatalf("Changes(%d, %v, %v) = %v, %v; want %v, %v", ino, from, to, got, e, want, no)
				}
			}
		}
	}
}

// line: a line of the table that opens as the slot; what isn't looked at is anything.
func line(r *rand.Rand, ino int, s api.Slot) [3]uint64 {
	w, _ := layout.PackSlot(ino, s)
	if s.Kind == api.KindFree {
		w[2] = r.Uint64()
	}
	if s.Tail == 0 {
		w[1] = r.Uint64()
	}
	return w
}

// TestP6_4TheLineOpens: whatever stands in the words that aren't looked at, and it is no more than what must be stored.
func TestP6_4TheLineOpens(t *testing.T) {
	r := chance()
	for _, from := range slots() {
		for _, to := range slots() {
			list, e := ilog.Changes(7, from, to)
			if e != api.OK {
				continue
			}
			w := line(r, 7, from)
			if s, no := layout.OpenSlot(7, w); s != from || no != api.OK {
				t.Fatalf("the line of %v opens as %v, %v", from, s, no)
			}
			for k, c := range list {
				if k > 0 && c.At <= list[k-1].At {
					t.Fatalf("Changes(%v, %v) = %v: they don't rise", from, to, list)
				}
				w[(c.At-layout.SlotAt(7))/8] = c.New
			}
			if s, no := layout.OpenSlot(7, w); s != to || no != api.OK {
				t.Fatalf("behind Changes(%v, %v) the line opens as %v, %v", from, to, s, no)
			}
		}
	}
}

func TestP6_4Inodes(t *testing.T) {
	for ino := -3; ino < 262; ino++ {
		list, e := ilog.Changes(ino, file(0, 0), file(5, 2688))
		if ino >= 1 && ino <= 256 {
			if e != api.OK || !slices.Equal(list, differing(ino, file(0, 0), file(5, 2688))) {
				t.Errorf("Changes of inode %d = %v, %v", ino, list, e)
			}
		} else if e != api.ErrSlot || list != nil {
			t.Errorf("Changes of inode %d = %v, %v", ino, list, e)
		}
	}
	for _, ino := range wild {
		for _, s := range []api.Slot{{}, file(5, 2688), {Kind: ino, Links: ino, Head: ino, Tail: ino}} {
			if list, e := ilog.Changes(ino, s, s); list != nil || e != api.ErrSlot {
				t.Errorf("Changes(%d, %v, ..) = %v, %v", ino, s, list, e)
			}
		}
	}
}

func TestP6_4WildSlots(t *testing.T) {
	good := file(5, 2688)
	for _, n := range wild {
		for _, s := range []api.Slot{{Kind: n, Links: 1, Head: 5, Tail: 2688}, {Kind: 1, Links: n, Head: 5, Tail: 2688}, {Kind: 1, Links: 1, Head: n, Tail: 2688}, {Kind: 1, Links: 1, Head: 5, Tail: n}, {Kind: 1, Links: 1, Head: n}, {Links: n}} {
			a, e := ilog.Changes(2, s, good)
			b, f := ilog.Changes(2, good, s)
			if a != nil || b != nil || e != api.ErrSlot || f != api.ErrSlot {
				t.Errorf("Changes from and to %v: %v, %v; %v, %v", s, a, e, b, f)
			}
			if g := ilog.Commit(blank(t, small), 2, s, good); g != api.ErrSlot {
				t.Errorf("Commit from %v: %v", s, g)
			}
			if g := ilog.Commit(blank(t, small), 2, good, s); g != api.ErrSlot {
				t.Errorf("Commit to %v: %v", s, g)
			}
		}
	}
}

// holdsBack: whether Commit answers this and does nothing.
func holdsBack(t *testing.T, d *pmem.Device, ino int, from, to api.Slot, want api.Errno) {
	t.Helper()
	what := fmt.Sprintf("Commit(%d, %v, %v)", ino, from, to)
	still(t, what, d, func() {
		if e := ilog.Commit(d, ino, from, to); e != want {
			t.Errorf("%s = %v, want %v", what, e, want)
		}
	})
}

// valid: 6.5's words for what Commit takes.
func valid(from, to api.Slot) bool {
	switch {
	case !isSlot(from) || !isSlot(to) || from.Kind == api.KindFree || to.Kind == api.KindFree:
		return false
	case from.Kind != to.Kind || from.Links != to.Links || to.Tail == 0:
		return false
	}
	return from.Tail == 0 || from.Head == to.Head
}

func TestP6_5EveryPair(t *testing.T) {
	d, m := blank(t, small), blank(t, small)
	for _, from := range slots() {
		for _, to := range slots() {
			if e := ilog.Commit(d, 3, from, to); e == api.OK != valid(from, to) || e != api.OK && e != api.ErrSlot {
				t.Fatalf("Commit(%v, %v) = %v", from, to, e)
			}
			if valid(from, to) {
				play(m, committing(3, from, to))
			}
			if d.Steps() != m.Steps() {
				t.Fatalf("Commit(%v, %v): %d steps, want %d", from, to, d.Steps(), m.Steps())
			}
		}
	}
	alike(t, "all commits", d, m)
}

func TestP6_5Inodes(t *testing.T) {
	for _, pages := range []int{1, 4, 5, 6, 24, 35, 36, 37} {
		d := load(t, make([]byte, pages*512))
		for ino := -2; ino < 260; ino++ {
			from, to := file(5, 2688), file(5, 2752)
			switch {
			case ino < 1 || ino > 256:
				holdsBack(t, d, ino, from, to, api.ErrSlot)
			case 2048+64*(ino-1)+24 > pages*512:
				holdsBack(t, d, ino, from, to, api.ErrBounds)
				holdsBack(t, d, ino, from, from, api.ErrBounds)
				holdsBack(t, d, ino, file(0, 0), to, api.ErrBounds)
				holdsBack(t, d, ino, from, file(6, 2752), api.ErrSlot)
				holdsBack(t, d, ino, from, file(0, 0), api.ErrSlot)
			default:
				if e := ilog.Commit(d, ino, from, to); e != api.OK {
					t.Errorf("Commit of inode %d on %d pages = %v", ino, pages, e)
				}
			}
		}
	}
	for _, ino := range wild {
		holdsBack(t, blank(t, large), ino, file(5, 2688), file(5, 2752), api.ErrSlot)
	}
}

// TestP6_5Steps: each commit cut behind each of its steps, over bytes that are anything.
func TestP6_5Steps(t *testing.T) {
	r := chance()
	for _, c := range []struct{ from, to api.Slot }{
		{file(0, 0), file(5, 2688)},
		{file(5, 2688), file(5, 2752)},
		{file(5, 2752), file(5, 2688)},
		{file(5, 2688), file(5, 2688)},
		{api.Slot{Kind: api.KindDir, Links: 1}, api.Slot{Kind: api.KindDir, Links: 1, Head: 1023, Tail: 524288}},
		{api.Slot{Kind: api.KindFile, Links: 100, Head: 9, Tail: 2688}, api.Slot{Kind: api.KindFile, Links: 100, Head: 9, Tail: 4736}},
	} {
		for _, ino := range []int{1, 2, 8} {
			b := filled(r, small)
			acts := committing(ino, c.from, c.to)
			for cut := 0; cut <= len(acts); cut++ {
				d, m := load(t, b), load(t, b)
				for _, x := range []*pmem.Device{d, m} {
					x.Store(2048+64*(ino-1)+32, 5) // a doubt in the line, and one elsewhere
					x.Store(4096, 6)
					x.Arm(cut)
				}
				e := play(m, acts)
				if f := ilog.Commit(d, ino, c.from, c.to); e != f {
					t.Errorf("Commit(%d, %v, %v) with %d steps = %v, want %v", ino, c.from, c.to, cut, f, e)
				}
				alike(t, "Commit", d, m)
			}
		}
	}
}

// TestP6_5OnADeadDevice: a refusal is the same there, and a commit of nothing is no step.
func TestP6_5OnADeadDevice(t *testing.T) {
	d := blank(t, small)
	d.Arm(0)
	holdsBack(t, d, 0, file(5, 2688), file(5, 2752), api.ErrSlot)
	holdsBack(t, d, 256, file(5, 2688), file(5, 2752), api.ErrBounds)
	holdsBack(t, d, 2, file(5, 2688), file(5, 2688), api.OK)
	holdsBack(t, d, 2, file(5, 2688), file(5, 2752), api.ErrDead)
}
