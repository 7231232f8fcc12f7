package journal_test

import (
	"bytes"
	"slices"
	"testing"

	"furrow/api"
	"furrow/codec"
	"furrow/journal"
)

// pends: Pending's answer, and Overlay's of the same image, which hangs on it.
func pends(t *testing.T, what string, b []byte, want []api.Undo, f api.Errno) {
	t.Helper()
	l, e := journal.Pending(b)
	if !slices.Equal(l, want) || e != f {
		t.Errorf("%s: Pending = %v, %v, want %v, %v", what, l, e, want, f)
	}
	if e != api.OK && l != nil {
		t.Errorf("%s: a list beside an error", what)
	}
	o, e := journal.Overlay(b)
	if !bytes.Equal(o, overlaid(b, want, f)) || e != f {
		t.Errorf("%s: Overlay = %d bytes, %v, want %v", what, len(o), e, f)
	}
	if e != api.OK && o != nil {
		t.Errorf("%s: bytes beside an error", what)
	}
}

// overlaid: what P4.5 says, byte by byte.
func overlaid(b []byte, list []api.Undo, e api.Errno) []byte {
	if e != api.OK {
		return nil
	}
	var o []byte
	for at, x := range b {
		for _, u := range list {
			if at >= u.At && at < u.At+8 {
				x = byte(u.Old >> (8 * (at - u.At)))
			}
		}
		o = append(o, x)
	}
	return o
}

func TestP4_4NoSuperblock(t *testing.T) {
	for _, n := range []int{0, 1, 64, 127, 128, 129, 511, 512, 513, 1023, 1024, 23 * 512, 24 * 512, 24*512 + 1, 1024 * 512, 1025 * 512} {
		pends(t, "zeros", make([]byte, n), nil, api.ErrSuper)
	}
	pends(t, "nil", nil, nil, api.ErrSuper)
	whole := image(small)
	for _, n := range []int{0, 64, 128, 512, 600, 1023, 1024, 23 * 512, 24*512 - 1} {
		pends(t, "a cut image", whole[:n], nil, api.ErrSuper)
	}
	pends(t, "a byte more", append(bytes.Clone(whole), 0), nil, api.ErrSuper)
	pends(t, "a page more", append(bytes.Clone(whole), make([]byte, 512)...), nil, api.ErrSuper)
}

// TestP4_4SuperAheadOfUndo: a superblock that isn't there is told ahead of a journal that can't be read.
func TestP4_4SuperAheadOfUndo(t *testing.T) {
	for _, j := range journals {
		b := image(small)
		copy(b[512:], j.page)
		b[3] ^= 1
		b[64+3] ^= 1
		pends(t, j.name, b, nil, api.ErrSuper)
	}
}

func TestP4_4Journals(t *testing.T) {
	for _, j := range journals {
		b := image(small)
		copy(b[512:], j.page)
		switch {
		case j.empty:
			pends(t, j.name, b, nil, api.OK)
		case j.name == "one record":
			pends(t, j.name, b, []api.Undo{{At: 2048, Old: 5}}, api.OK)
		case j.name == "eight records":
			pends(t, j.name, b, undos(2048, 2056, 2064, 2112, 2120, 2128, 2176, 2184), api.OK)
		default:
			pends(t, j.name, b, nil, api.ErrUndo)
		}
	}
}

// TestP4_4EachLineOfTheSuperblock: the image's shape is that of the first line that is good.
func TestP4_4EachLineOfTheSuperblock(t *testing.T) {
	more := api.Shape{Pages: 24, Inodes: 16, Cores: 1, Data: 6}
	record := api.Undo{At: 2560, Old: 5} // slot 9
	for _, c := range []struct {
		name          string
		first, second []byte
		want          api.Errno
	}{
		{"8 inodes", superLine(small), superLine(small), api.ErrUndo},
		{"16 inodes", superLine(more), superLine(more), api.OK},
		{"8, then 16", superLine(small), superLine(more), api.ErrUndo},
		{"16, then 8", superLine(more), superLine(small), api.OK},
		{"none, then 8", make([]byte, 64), superLine(small), api.ErrUndo},
		{"none, then 16", make([]byte, 64), superLine(more), api.OK},
		{"one of another size, then 16", superLine(middling), superLine(more), api.OK},
		{"16, then none", superLine(more), make([]byte, 64), api.OK},
	} {
		b := journaled(image(small), record)
		copy(b, c.first)
		copy(b[64:], c.second)
		list := []api.Undo{record}
		if c.want != api.OK {
			list = nil
		}
		pends(t, c.name, b, list, c.want)
	}
}

func TestP4_4EveryTableWordOfEveryNumberOfInodes(t *testing.T) {
	for inodes := 8; inodes <= 256; inodes += 8 {
		sh := api.Shape{Pages: 64, Inodes: inodes, Cores: 1}
		b := image(sh)
		for _, at := range tableWords(large) {
			full := journaled(b, api.Undo{At: at, Old: 3})
			l, e := journal.Pending(full)
			if isTableWord(sh, at) {
				if len(l) != 1 || l[0] != (api.Undo{At: at, Old: 3}) || e != api.OK {
					t.Errorf("%d inodes: a record of %d: %v, %v", inodes, at, l, e)
				}
			} else if l != nil || e != api.ErrUndo {
				t.Errorf("%d inodes: a record of %d: %v, %v", inodes, at, l, e)
			}
		}
	}
}

func TestP4_4WhereTheWrongOneStands(t *testing.T) {
	for n := 1; n <= 8; n++ {
		for k := range n {
			for _, at := range []int{2560, 2568, 2576, 18368, 2072, 2049, 2040, 0, 512, -8} {
				list := undos(tableWords(small)[:n]...)
				list[k].At = at
				pends(t, "a wrong one among others", journaled(image(small), list...), nil, api.ErrUndo)
			}
		}
	}
}

func TestP4_4InTheirOrder(t *testing.T) {
	r := chance()
	for round := range 100 {
		sh := []api.Shape{small, middling}[round%2]
		all := tableWords(sh)
		var list []api.Undo
		for _, i := range r.Perm(len(all))[:1+round%8] {
			list = append(list, api.Undo{At: all[i], Old: r.Uint64()})
		}
		pends(t, "drawn", journaled(filled(r, sh), list...), list, api.OK)
	}
	up := undos(tableWords(small)[:8]...)
	down := slices.Clone(up)
	slices.Reverse(down)
	pends(t, "rising", journaled(image(small), up...), up, api.OK)
	pends(t, "falling", journaled(image(small), down...), down, api.OK)
}

func TestP4_4SpoiltBytes(t *testing.T) {
	list := undos(2048, 2512, 2120)
	b := journaled(image(small), list...)
	for at := 512; at < 1024; at++ {
		b[at] ^= 1 << (at % 8)
		read := at < 528 || at >= 576 && at < 624 // the two words and the three records
		if read {
			pends(t, "a spoilt byte", b, nil, api.ErrUndo)
		} else {
			pends(t, "a byte that nobody looks at", b, list, api.OK)
		}
		b[at] ^= 1 << (at % 8)
	}
}

func TestP4_5WithoutRecords(t *testing.T) {
	r := chance()
	for _, sh := range []api.Shape{small, middling, large} {
		b := filled(r, sh)
		o, e := journal.Overlay(b)
		if e != api.OK || !bytes.Equal(o, b) {
			t.Errorf("Overlay of an image without records: %v", e)
		}
	}
}

// TestP4_5TheJournalStays: an overlay has its records still, and is its own overlay.
func TestP4_5TheJournalStays(t *testing.T) {
	r := chance()
	list := undos(2512, 2048, 2056)
	b := journaled(filled(r, small), list...)
	o, e := journal.Overlay(b)
	if e != api.OK || !bytes.Equal(o[:2048], b[:2048]) || !bytes.Equal(o[2520:], b[2520:]) {
		t.Fatalf("Overlay: %v, or bytes elsewhere are changed", e)
	}
	pends(t, "an overlay", o, list, api.OK)
	again, e := journal.Overlay(o)
	if e != api.OK || !bytes.Equal(again, o) {
		t.Errorf("Overlay of an overlay: %v", e)
	}
}

func TestP4_5TheLastWord(t *testing.T) {
	sh := api.Shape{Pages: 44, Inodes: 256, Cores: 1, Data: 36} // 8 pages behind the table
	b := journaled(image(sh, api.Change{At: 18384, New: 1}), api.Undo{At: 18384, Old: 1<<63 | 2})
	pends(t, "the last slot's tail", b, []api.Undo{{At: 18384, Old: 1<<63 | 2}}, api.OK)
	if o, _ := journal.Overlay(b); word(o, 18384) != 1<<63|2 || word(b, 18384) != 1 {
		t.Error("the last slot's tail isn't put back in the copy alone")
	}
	copy(b[512:], codec.Bytes(0))
	if o, _ := journal.Overlay(b); word(o, 18384) != 1 {
		t.Error("a word is put back without a record")
	}
}
