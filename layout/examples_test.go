package layout_test

import (
	"bytes"
	"strings"
	"testing"

	"furrow/api"
	"furrow/layout"
)

func TestExample1(t *testing.T) {
	for _, c := range []struct {
		pages, inodes, cores, data int
	}{{24, 8, 1, 5}, {1024, 256, 8, 36}, {24, 96, 1, 16}, {24, 104, 1, 0}, {24, 12, 1, 0}, {23, 8, 1, 0}, {1025, 8, 1, 0}, {24, 8, 0, 0}, {24, 8, 9, 0}, {24, 0, 1, 0}} {
		want, f := api.Shape{Pages: c.pages, Inodes: c.inodes, Cores: c.cores, Data: c.data}, api.OK
		if c.data == 0 {
			want, f = api.Shape{}, api.ErrShape
		}
		s, e := layout.Fit(api.Super{Pages: c.pages, Inodes: c.inodes, Cores: c.cores})
		answered(t, "Fit", s, e, want, f)
	}
}

func TestExample2(t *testing.T) {
	for ino, want := range map[int]int{1: 2048, 9: 2560, 256: 18368, 0: -1, 257: -1} {
		if got := layout.SlotAt(ino); got != want {
			t.Errorf("SlotAt(%d) = %d", ino, got)
		}
	}
}

func TestExample3(t *testing.T) {
	for _, name := range []string{"a", "...", " ", strings.Repeat("x", 28), "\xff"} {
		named(t, name, true)
	}
	for _, name := range []string{"", ".", "..", "a/b", "a\x00", strings.Repeat("x", 29)} {
		named(t, name, false)
	}
}

func TestExample4(t *testing.T) {
	for tail, good := range map[int]bool{2624: false, 2688: true, 3072: true, 3136: false, 2560: false} {
		packsSlot(t, 2, api.Slot{Kind: api.KindFile, Links: 2, Head: 5, Tail: tail}, good)
	}
}

func TestExample5(t *testing.T) {
	packsSlot(t, 2, api.Slot{Kind: api.KindDir, Links: 2}, false)
	packsSlot(t, 2, api.Slot{Kind: api.KindDir, Links: 2, Head: 5, Tail: 2688}, false)
	packsSlot(t, 2, api.Slot{Kind: api.KindFile, Links: 0, Head: 5, Tail: 2688}, false)
	packsSlot(t, 2, api.Slot{Kind: api.KindFile, Links: 101, Head: 5, Tail: 2688}, false)
	packsSlot(t, 2, api.Slot{Kind: api.KindFile, Links: 1, Head: 5, Tail: 0}, false)
	packsSlot(t, 2, api.Slot{Kind: api.KindFile, Links: 1, Head: 0, Tail: 0}, true)
}

func packs(t *testing.T, x api.Entry, good bool) api.Line {
	t.Helper()
	l, e := layout.PackEntry(x)
	if (e == api.OK) != good || (e == api.ErrEntry) == good {
		t.Errorf("PackEntry(%+v): %v", x, e)
	}
	return l
}

func TestExample6(t *testing.T) {
	packs(t, api.Entry{Kind: api.EntSize, Seq: 1, Size: 262144}, true)
	packs(t, api.Entry{Kind: api.EntSize, Seq: 1, Size: 262145}, false)
	packs(t, api.Entry{Kind: api.EntSize, Seq: 0, Size: 262144}, false)
	packs(t, api.Entry{Kind: api.EntSize, Seq: 1, Size: 262144, Count: 1}, false)
	packs(t, api.Entry{Kind: api.EntSize, Seq: 1, Size: 262144, Name: "a"}, false)
}

func TestExample7(t *testing.T) {
	packs(t, api.Entry{Kind: api.EntWrite, Seq: 3, Off: 496, Count: 16, Page: 1008}, true)
	packs(t, api.Entry{Kind: api.EntWrite, Seq: 3, Off: 497, Count: 16, Page: 1008}, false)
	packs(t, api.Entry{Kind: api.EntWrite, Seq: 3, Off: 496, Count: 16, Page: 1009}, false)
	packs(t, api.Entry{Kind: api.EntWrite, Seq: 3, Off: 496, Count: 17, Page: 1008}, false)
	packs(t, api.Entry{Kind: api.EntWrite, Seq: 3, Off: 496, Count: 16, Page: 4}, false)
}

func TestExample8(t *testing.T) {
	packs(t, api.Entry{Kind: api.EntAdd, Seq: 9, Ino: 2, Name: "a"}, true)
	packs(t, api.Entry{Kind: api.EntAdd, Seq: 9, Ino: 1, Name: "a"}, false)
	packs(t, api.Entry{Kind: api.EntAdd, Seq: 9, Ino: 257, Name: "a"}, false)
	packs(t, api.Entry{Kind: api.EntDrop, Seq: 9, Ino: 2, Name: "a"}, false)
	l := packs(t, api.Entry{Kind: api.EntDrop, Seq: 9, Name: "a"}, true)
	want := make([]byte, 60)
	want[0], want[1], want[8], want[32] = 4, 1, 9, 97
	if !bytes.Equal(l[:60], want) {
		t.Errorf("%x", l)
	}
}

func TestExample9(t *testing.T) {
	b, e := layout.PackUndo([]api.Undo{{At: 2048, Old: 7}})
	if len(b) != 80 || e != api.OK || !bytes.Equal(b[64:], []byte{0, 8, 0, 0, 0, 0, 0, 0, 7, 0, 0, 0, 0, 0, 0, 0}) {
		t.Errorf("%x, %v", b, e)
	}
	for _, list := range [][]api.Undo{{{At: 2048, Old: 7}, {At: 2048, Old: 8}}, {{At: 2072}}, {{At: 2052}}, nil} {
		packsUndo(t, list, false)
	}
	opensUndo(t, make([]byte, 512), nil, api.OK)
	opensUndo(t, make([]byte, 511), nil, api.ErrUndo)
}

func TestExample10(t *testing.T) {
	for _, c := range []struct {
		spans []api.Span
		size  int
	}{{nil, 24}, {spans(5, 3, 9, 1), 32}, {spans(5, 3, 8, 1), 0}, {spans(5, 0), 0}, {spans(5, 1019), 32}, {spans(5, 1020), 0}} {
		f := api.OK
		if c.size == 0 {
			f = api.ErrSaved
		}
		if b, e := layout.PackSaved(api.Saved{Stamp: 1, Spans: c.spans}); len(b) != c.size || e != f {
			t.Errorf("PackSaved of %v: %d bytes, %v", c.spans, len(b), e)
		}
	}
}
