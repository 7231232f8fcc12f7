package layout_test

import (
	"bytes"
	"math/rand"
	"slices"
	"testing"

	"furrow/api"
	"furrow/layout"
)

// P3.15: what a maker makes, the reader gives back; what a reader takes, the maker makes again. The values and bytes are drawn; that some are taken is asked too.

func drawnSuper(r *rand.Rand) api.Super {
	return api.Super{Pages: 24 + r.Intn(1001), Inodes: 8 * (1 + r.Intn(32)), Cores: 1 + r.Intn(8)}
}

func drawnSlot(r *rand.Rand) api.Slot {
	s := api.Slot{Kind: r.Intn(3)}
	if s.Kind == api.KindFree {
		return s
	}
	s.Links = 1
	if s.Kind == api.KindFile {
		s.Links = 1 + r.Intn(100)
	}
	if r.Intn(3) > 0 {
		s.Head, s.Tail = 5+r.Intn(1019), 512*(5+r.Intn(1019))+64*(2+r.Intn(7))
	}
	return s
}

func drawnName(r *rand.Rand) string {
	for {
		b := anyBytes(r, 1+r.Intn(28))
		if nameIsGood(string(b)) {
			return string(b)
		}
	}
}

func drawnEntry(r *rand.Rand) api.Entry {
	e := api.Entry{Kind: 1 + r.Intn(4), Seq: 1 + uint64(r.Int63n(1<<62))}
	switch e.Kind {
	case api.EntWrite:
		e.Count = 1 + r.Intn(16)
		e.Off, e.Page, e.Size = r.Intn(513-e.Count), 5+r.Intn(1020-e.Count), r.Intn(262145)
	case api.EntSize:
		e.Size = r.Intn(262145)
	case api.EntAdd:
		e.Ino, e.Name = 2+r.Intn(255), drawnName(r)
	case api.EntDrop:
		e.Name = drawnName(r)
	}
	return e
}

func drawnUndos(r *rand.Rand) []api.Undo {
	var list []api.Undo
	ats := everyAt()
	for _, i := range r.Perm(len(ats))[:1+r.Intn(8)] {
		list = append(list, api.Undo{At: ats[i], Old: r.Uint64()})
	}
	return list
}

func drawnSaved(r *rand.Rand) api.Saved {
	s := api.Saved{Stamp: 1 + uint32(r.Int63n(1<<32-1))}
	wide := 1 + r.Intn(60)
	for from := 5 + r.Intn(20); from < 1024 && len(s.Spans) < 249; {
		count := 1 + r.Intn(min(wide, 1024-from))
		s.Spans = append(s.Spans, api.Span{From: from, Count: count})
		from += count + 1 + r.Intn(3)
	}
	return s
}

func TestP3_15SupersAndEntries(t *testing.T) {
	r := chance()
	for range 20000 {
		s := drawnSuper(r)
		if l, e := layout.PackSuper(s); e == api.OK {
			opensSuper(t, l, s, api.OK)
		} else if _, good := shape(s); good {
			t.Errorf("PackSuper(%+v): %v", s, e)
		}
		x := drawnEntry(r)
		l, e := layout.PackEntry(x)
		if e != api.OK {
			t.Errorf("PackEntry(%+v): %v", x, e)
		}
		opensEntry(t, l, x, api.OK)
	}
}

func TestP3_15SlotsAndHeaders(t *testing.T) {
	r := chance()
	for range 20000 {
		ino, s := 1+r.Intn(256), drawnSlot(r)
		w, e := layout.PackSlot(ino, s)
		if e != api.OK {
			t.Errorf("PackSlot(%d, %+v): %v", ino, s, e)
		}
		opensSlot(t, ino, w, s, api.OK)
		at, h := 5+r.Intn(1019), api.Header{Next: (5 + r.Intn(1019)) * r.Intn(2), Owner: 1 + r.Intn(256)}
		two, e := layout.PackHeader(at, h)
		if e != api.OK {
			t.Errorf("PackHeader(%d, %+v): %v", at, h, e)
		}
		opensHeader(t, at, two, h, api.OK)
	}
}

func TestP3_15UndosAndRecords(t *testing.T) {
	r := chance()
	for range 2000 {
		list := drawnUndos(r)
		b, e := layout.PackUndo(list)
		if e != api.OK {
			t.Errorf("PackUndo(%+v): %v", list, e)
		}
		opensUndo(t, page(b), list, api.OK)
		s := drawnSaved(r)
		b, e = layout.PackSaved(s)
		if e != api.OK {
			t.Errorf("PackSaved(%+v): %v", s, e)
		}
		opensSaved(t, "drawn", b, s, api.OK)
	}
}

// lineAnew: a line with some bytes drawn anew, most often with its right sum.
func lineAnew(r *rand.Rand, l api.Line) api.Line {
	for range 1 + r.Intn(3) {
		l[r.Intn(60)] = byte(pick(r, []int{0, 1, 2, 3, 4, 5, 8, 16, 24, 46, 97, r.Intn(256)}))
	}
	if r.Intn(10) > 0 {
		return line(l[:60])
	}
	return l
}

func taken(t *testing.T, what string, n int) {
	t.Helper()
	if n < 100 {
		t.Errorf("only %d %s were taken: the test says little", n, what)
	}
}

func TestP3_15LinesThatAreTaken(t *testing.T) {
	r := chance()
	supers, entries := 0, 0
	for range 100000 {
		l := lineAnew(r, lineOf(drawnSuper(r)))
		if s, e := layout.OpenSuper(l); e == api.OK {
			supers++
			again, f := layout.PackSuper(s)
			answered(t, "PackSuper of what was read", again, f, l, api.OK)
		}
		l = lineAnew(r, entryLine(drawnEntry(r)))
		if x, e := layout.OpenEntry(l); e == api.OK {
			entries++
			again, f := layout.PackEntry(x)
			answered(t, "PackEntry of what was read", again, f, l, api.OK)
		}
	}
	taken(t, "supers", supers)
	taken(t, "entries", entries)
}

// number: one that may be good somewhere.
func number(r *rand.Rand) uint32 {
	if r.Intn(2) == 0 {
		return uint32(r.Intn(1100))
	}
	return pick(r, []uint32{0, 1, 256, 257, 258, 259, 512, 513, 514, 2624, 2688, 3072, 3136, 25601, 25857, 524224, 524288, 524352, r.Uint32()})
}

func TestP3_15WordsThatAreTaken(t *testing.T) {
	r := chance()
	slots, headers := 0, 0
	for range 100000 {
		ino, at := r.Intn(260), 1+r.Intn(1026)
		place := 2048 + 64*(ino-1)
		w := [3]uint64{seal(place, number(r)), seal(place+8, number(r)), seal(place+16, number(r))}
		if s, e := layout.OpenSlot(ino, w); e == api.OK {
			slots++
			if s.Kind == api.KindFree { // what isn't looked at is made as 0
				w[1], w[2] = 0, 0
			} else if s.Tail == 0 {
				w[1] = 0
			}
			again, f := layout.PackSlot(ino, s)
			answered(t, "PackSlot of what was read", again, f, w, api.OK)
		}
		two := headerWords(at, number(r), number(r))
		if h, e := layout.OpenHeader(at, two); e == api.OK {
			headers++
			again, f := layout.PackHeader(at, h)
			answered(t, "PackHeader of what was read", again, f, two, api.OK)
		}
	}
	taken(t, "slots", slots)
	taken(t, "headers", headers)
}

func TestP3_15JournalsThatAreTaken(t *testing.T) {
	r := chance()
	n := 0
	for range 10000 {
		list := drawnUndos(r)
		list[r.Intn(len(list))].At = 2048 + r.Intn(200)
		b := page(undoBytes(list))
		b[r.Intn(512)] ^= byte(r.Intn(2))
		if got, e := layout.OpenUndo(b); e == api.OK {
			n++
			copy(b[16:64], make([]byte, 48))
			again, f := layout.PackUndo(got)
			if f != api.OK || !bytes.Equal(again, b[:len(again)]) || len(again) != 64+16*len(got) {
				t.Errorf("PackUndo(%+v) = %x, %v, want %x", got, again, f, b)
			}
		}
	}
	taken(t, "journals", n)
}

func TestP3_15RecordsThatAreTaken(t *testing.T) {
	r := chance()
	n := 0
	for range 10000 {
		b := savedRecord(drawnSaved(r))
		b[r.Intn(len(b))] ^= byte(r.Intn(8))
		b = resummed(b)
		if got, e := layout.OpenSaved(b); e == api.OK {
			n++
			again, f := layout.PackSaved(got)
			if size := 24 + 4*len(got.Spans); f != api.OK || !bytes.Equal(again[:size], b[:size]) {
				t.Errorf("PackSaved(%+v) = %x, %v, want %x", got, again, f, b)
			}
		}
	}
	taken(t, "records", n)
}

func TestP3_15TheJournalWithoutRecords(t *testing.T) {
	list, e := layout.OpenUndo(make([]byte, 512))
	if len(list) != 0 || e != api.OK {
		t.Errorf("OpenUndo of zeros = %+v, %v", list, e)
	}
	packsUndo(t, list, false)
}

func TestNoiseIsRefused(t *testing.T) {
	r := chance()
	for range 20000 {
		b := anyBytes(r, 512)
		l := api.Line(b[:64])
		opensSuper(t, l, api.Super{}, api.ErrSuper)
		opensSuper(t, line(l[:60]), api.Super{}, api.ErrSuper)
		opensEntry(t, l, api.Entry{}, api.ErrEntry)
		opensSlot(t, 1, [3]uint64{r.Uint64(), r.Uint64(), r.Uint64()}, api.Slot{}, api.ErrSlot)
		opensHeader(t, 5, [2]uint64{r.Uint64(), r.Uint64()}, api.Header{}, api.ErrHeader)
		opensUndo(t, b, nil, api.ErrUndo)
		opensSaved(t, "noise", b, api.Saved{}, api.ErrSaved)
	}
}

func TestAnswersAreTheSameEachTime(t *testing.T) {
	r := chance()
	list, s := drawnUndos(r), drawnSaved(r)
	b, _ := layout.PackUndo(list)
	c, _ := layout.PackSaved(s)
	for range 20 {
		again, _ := layout.PackUndo(slices.Clone(list))
		more, _ := layout.PackSaved(api.Saved{Stamp: s.Stamp, Spans: slices.Clip(slices.Clone(s.Spans))})
		if !bytes.Equal(again, b) || !bytes.Equal(more, c) {
			t.Error("two answers to one question differ")
		}
	}
}
