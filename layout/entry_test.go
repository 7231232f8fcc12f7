package layout_test

import (
	"fmt"
	"math"
	"math/rand"
	"strings"
	"testing"

	"furrow/api"
	"furrow/layout"
)

var (
	offs    = append([]int{0, 1, 2, 255, 256, 495, 496, 497, 510, 511, 512, 513}, wild...)
	counts  = append([]int{0, 1, 2, 15, 16, 17, 256}, wild...)
	froms   = append([]int{0, 4, 5, 6, 300, 1007, 1008, 1009, 1022, 1023, 1024}, wild...)
	sizes   = append([]int{0, 1, 512, 262143, 262144, 262145, 1 << 24}, wild...)
	targets = append([]int{0, 1, 2, 3, 255, 256, 257}, wild...)
	seqs    = []uint64{0, 1, 2, 258, 1<<62 - 1, 1 << 62, 1<<62 + 1, 1 << 63, math.MaxUint64}
	texts   = []string{"", ".", "..", "...", "a", "ab", "\xff", " ", "a/b", "/", "a\x00", "\x00", strings.Repeat("n", 27), strings.Repeat("n", 28), strings.Repeat("n", 29), strings.Repeat("n", 257), strings.Repeat("n", 284)}
)

// goodEntries: some of every kind, their edges among them.
var goodEntries = []api.Entry{
	{Kind: 1, Seq: 1, Off: 0, Count: 1, Page: 5, Size: 0},
	{Kind: 1, Seq: 3, Off: 496, Count: 16, Page: 1008, Size: 0},
	{Kind: 1, Seq: 1 << 62, Off: 511, Count: 1, Page: 1023, Size: 262144},
	{Kind: 1, Seq: 0x3122334455667788, Off: 0x1aa, Count: 7, Page: 0x2bb, Size: 0x3abcd},
	{Kind: 2, Seq: 1, Size: 0},
	{Kind: 2, Seq: 258, Size: 262144},
	{Kind: 2, Seq: 1 << 62, Size: 0x21437},
	{Kind: 3, Seq: 1, Ino: 2, Name: "a"},
	{Kind: 3, Seq: 9, Ino: 256, Name: "\xff\xfe..\x01 and so on to 28 bytes"},
	{Kind: 3, Seq: 1 << 62, Ino: 255, Name: "..."},
	{Kind: 4, Seq: 9, Name: "a"},
	{Kind: 4, Seq: 1 << 62, Name: strings.Repeat("n", 28)},
}

func nameIsGood(n string) bool {
	return len(n) >= 1 && len(n) <= 28 && n != "." && n != ".." && !strings.Contains(n, "/") && !strings.Contains(n, "\x00")
}

// goodEntry: the chapter's words, kind by kind.
func goodEntry(e api.Entry) bool {
	if e.Seq < 1 || e.Seq > 1<<62 {
		return false
	}
	noRun := e.Off == 0 && e.Count == 0 && e.Page == 0
	sized := e.Size >= 0 && e.Size <= 262144
	switch e.Kind {
	case 1:
		run := e.Count >= 1 && e.Count <= 16 && e.Off >= 0 && e.Off <= 512-e.Count
		return run && isData(e.Page) && isData(e.Page+e.Count-1) && sized && e.Ino == 0 && e.Name == ""
	case 2:
		return noRun && sized && e.Ino == 0 && e.Name == ""
	case 3:
		return noRun && e.Size == 0 && e.Ino >= 2 && e.Ino <= 256 && nameIsGood(e.Name)
	case 4:
		return noRun && e.Size == 0 && e.Ino == 0 && nameIsGood(e.Name)
	}
	return false
}

// entryLine: the chapter's table.
func entryLine(e api.Entry) api.Line {
	third := e.Off
	if e.Kind == 3 {
		third = e.Ino
	}
	return line([]byte{byte(e.Kind), byte(len(e.Name)), 0, 0, 0, 0, 0, 0}, low(e.Seq, 8),
		low(uint64(third), 4), low(uint64(e.Count), 4), low(uint64(e.Page), 4), low(uint64(e.Size), 4), []byte(e.Name))
}

func packsEntry(t *testing.T, x api.Entry) {
	t.Helper()
	want, f := api.Line{}, api.ErrEntry
	if goodEntry(x) {
		want, f = entryLine(x), api.OK
	}
	l, e := layout.PackEntry(x)
	answered(t, fmt.Sprintf("PackEntry(%+v)", x), l, e, want, f)
}

func opensEntry(t *testing.T, l api.Line, want api.Entry, f api.Errno) {
	t.Helper()
	x, e := layout.OpenEntry(l)
	answered(t, fmt.Sprintf("OpenEntry(%x)", l), x, e, want, f)
}

// spread: an entry with one of its fields, or two, drawn anew.
func spread(r *rand.Rand, e api.Entry) api.Entry {
	for range 1 + r.Intn(2) {
		switch r.Intn(8) {
		case 0:
			e.Kind = pick(r, kinds)
		case 1:
			e.Seq = pick(r, seqs)
		case 2:
			e.Off = pick(r, offs)
		case 3:
			e.Count = pick(r, counts)
		case 4:
			e.Page = pick(r, froms)
		case 5:
			e.Size = pick(r, sizes)
		case 6:
			e.Ino = pick(r, targets)
		case 7:
			e.Name = pick(r, texts)
		}
	}
	return e
}

func TestP3_9GoodEntries(t *testing.T) {
	for _, x := range goodEntries {
		if !goodEntry(x) {
			t.Fatalf("%+v is not good", x)
		}
		packsEntry(t, x)
	}
}

func TestP3_9OneFieldAnew(t *testing.T) {
	for _, x := range goodEntries {
		try := func(change func(*api.Entry)) {
			e := x
			change(&e)
			packsEntry(t, e)
		}
		for _, n := range kinds {
			try(func(e *api.Entry) { e.Kind = n })
		}
		for _, n := range seqs {
			try(func(e *api.Entry) { e.Seq = n })
		}
		for _, n := range offs {
			try(func(e *api.Entry) { e.Off = n })
		}
		for _, n := range counts {
			try(func(e *api.Entry) { e.Count = n })
		}
		for _, n := range froms {
			try(func(e *api.Entry) { e.Page = n })
		}
		for _, n := range sizes {
			try(func(e *api.Entry) { e.Size = n })
		}
		for _, n := range targets {
			try(func(e *api.Entry) { e.Ino = n })
		}
		for _, n := range texts {
			try(func(e *api.Entry) { e.Name = n })
		}
	}
	packsEntry(t, api.Entry{})
}

func TestP3_9RunsAtTheirEdges(t *testing.T) {
	for _, off := range offs {
		for _, count := range counts {
			for _, page := range froms {
				packsEntry(t, api.Entry{Kind: 1, Seq: 7, Off: off, Count: count, Page: page, Size: 9})
			}
		}
	}
	for count := -1; count <= 18; count++ {
		for off := 490; off <= 514; off++ {
			packsEntry(t, api.Entry{Kind: 1, Seq: 7, Off: off, Count: count, Page: 9})
		}
		for page := 1000; page <= 1026; page++ {
			packsEntry(t, api.Entry{Kind: 1, Seq: 7, Count: count, Page: page})
		}
		for page := -20; page <= 8; page++ {
			packsEntry(t, api.Entry{Kind: 1, Seq: 7, Count: count, Page: page})
		}
	}
}

func TestP3_9DrawnEntries(t *testing.T) {
	r := chance()
	for range 50000 {
		packsEntry(t, spread(r, pick(r, goodEntries)))
	}
}

func TestP3_10OpensWhatIsGood(t *testing.T) {
	for _, x := range goodEntries {
		opensEntry(t, entryLine(x), x, api.OK)
	}
	for n := 1; n <= 28; n++ {
		x := api.Entry{Kind: 3, Seq: uint64(n), Ino: 1 + n, Name: strings.Repeat("x", n)}
		opensEntry(t, entryLine(x), x, api.OK)
	}
	for seq := uint64(1); seq <= 1<<62; seq *= 2 {
		x := api.Entry{Kind: 2, Seq: seq, Size: 3}
		opensEntry(t, entryLine(x), x, api.OK)
	}
}

func TestP3_10SpoiltBytes(t *testing.T) {
	for _, x := range goodEntries {
		l := entryLine(x)
		for at := range l {
			for _, turn := range []byte{1, 4, 128, 255} {
				bad := l
				bad[at] ^= turn
				opensEntry(t, bad, api.Entry{}, api.ErrEntry)
			}
		}
	}
	opensEntry(t, api.Line{}, api.Entry{}, api.ErrEntry)
	opensEntry(t, line(nil), api.Entry{}, api.ErrEntry)
}

// meant: the good entry whose line this is, looked for by the fields that it would have.
func meant(l api.Line) (api.Entry, api.Errno) {
	number := func(at, n int) uint64 {
		v := uint64(0)
		for i := range n {
			v |= uint64(l[at+i]) << (8 * i)
		}
		return v
	}
	x := api.Entry{Kind: int(l[0]), Seq: number(8, 8)}
	if x.Kind == 1 {
		x.Off, x.Count, x.Page = int(number(16, 4)), int(number(20, 4)), int(number(24, 4))
	}
	if x.Kind == 1 || x.Kind == 2 {
		x.Size = int(number(28, 4))
	}
	if x.Kind == 3 {
		x.Ino = int(number(16, 4))
	}
	if (x.Kind == 3 || x.Kind == 4) && l[1] <= 28 {
		x.Name = string(l[32 : 32+l[1]])
	}
	if !goodEntry(x) || entryLine(x) != l {
		return api.Entry{}, api.ErrEntry
	}
	return x, api.OK
}

func TestP3_10EveryByteAnewWithItsSum(t *testing.T) {
	for _, x := range goodEntries {
		l := entryLine(x)
		for at := range 60 {
			for v := range 256 {
				other := l
				other[at] = byte(v)
				other = line(other[:60])
				want, e := meant(other)
				opensEntry(t, other, want, e)
			}
		}
	}
}

func TestP3_10WhatTheKindHasNot(t *testing.T) {
	unused := map[int][]int{ // places that are zero in every line of the kind
		1: {1, 2, 7, 32, 40, 59},
		2: {1, 2, 7, 16, 19, 20, 23, 24, 27, 32, 59},
		3: {2, 7, 20, 23, 24, 27, 28, 31},
		4: {2, 7, 16, 19, 20, 23, 24, 27, 28, 31},
	}
	for _, x := range goodEntries {
		for _, at := range unused[x.Kind] {
			for _, v := range []byte{1, 2, 128, 255} {
				l := entryLine(x)
				l[at] = v
				opensEntry(t, line(l[:60]), api.Entry{}, api.ErrEntry)
			}
		}
		for at := 32 + len(x.Name); at < 60; at++ {
			l := entryLine(x)
			l[at] = 'z'
			opensEntry(t, line(l[:60]), api.Entry{}, api.ErrEntry)
		}
	}
}

func TestP3_10NamesThatAreCutOtherwise(t *testing.T) {
	l := entryLine(api.Entry{Kind: 4, Seq: 9, Name: "abc"})
	for n := range 256 {
		l[1] = byte(n)
		want, f := api.Entry{}, api.ErrEntry
		if n == 3 {
			want, f = api.Entry{Kind: 4, Seq: 9, Name: "abc"}, api.OK
		}
		opensEntry(t, line(l[:60]), want, f)
	}
}

func TestP3_10WildHalves(t *testing.T) {
	for _, x := range goodEntries {
		for _, at := range []int{16, 20, 24, 28} {
			for _, v := range []uint64{1 << 31, 1<<31 + 5, math.MaxUint32, 1 << 16} {
				l := entryLine(x)
				copy(l[at:], low(v, 4))
				l = line(l[:60])
				want, f := meant(l)
				opensEntry(t, l, want, f)
			}
		}
		for _, seq := range seqs {
			l := entryLine(x)
			copy(l[8:], low(seq, 8))
			l = line(l[:60])
			want, f := meant(l)
			opensEntry(t, l, want, f)
		}
	}
}
