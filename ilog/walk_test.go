package ilog_test

import (
	"fmt"
	"math"
	"math/rand"
	"slices"
	"testing"

	"furrow/api"
	"furrow/codec"
	"furrow/ilog"
	"furrow/layout"
)

// asSaid: whether Walk answers what 6.6 says, in its words.
func asSaid(t *testing.T, what string, b []byte, sh api.Shape, ino int, slot api.Slot) api.Errno {
	t.Helper()
	entries, pages, e := walking(b, sh, ino, slot)
	if e == api.OK {
		walks(t, what, b, sh, ino, slot, entries, pages)
	} else {
		breaks(t, what, b, sh, ino, slot, e)
	}
	return e
}

// threePages: a log of 17 entries on the pages 9, 5 and 20 of the small shape, amid bytes that are anything.
func threePages(t *testing.T, r *rand.Rand) ([]byte, log) {
	t.Helper()
	d, l := made(t, r, small, 2, api.KindFile)
	l = l.more(t, d, small, sizes(5), []int{9})
	l = l.more(t, d, small, drawn(r, small, 12), []int{5, 20})
	return d.View(), l
}

func TestP6_6Shapes(t *testing.T) {
	b, l := threePages(t, chance())
	for _, by := range []int{-512, -8, -1, 1, 8, 512, 1 << 32, math.MinInt} {
		for _, sh := range []api.Shape{{Pages: 24 + by, Inodes: 8, Cores: 1, Data: 5}, {Pages: 24, Inodes: 8 + by, Cores: 1, Data: 5}, {Pages: 24, Inodes: 8, Cores: 1, Data: 5 + by}} {
			breaks(t, "another shape", b, sh, 2, l.slot, api.ErrShape)
			breaks(t, "another shape", b, sh, 0, api.Slot{Links: 7}, api.ErrShape)
			breaks(t, "another shape", b, sh, 2, api.Slot{}, api.ErrShape)
		}
	}
	for _, cores := range []int{0, -1, 9, 1<<32 + 1} {
		breaks(t, "cores", b, api.Shape{Pages: 24, Inodes: 8, Cores: cores, Data: 5}, 2, l.slot, api.ErrShape)
	}
	for _, n := range []int{0, 1, 511, 512, 23 * 512, 24*512 - 1} {
		breaks(t, "a short image", b[:n], small, 2, l.slot, api.ErrShape)
	}
	breaks(t, "a long image", append(slices.Clone(b), 0), small, 2, l.slot, api.ErrShape)
	breaks(t, "no image", nil, small, 2, l.slot, api.ErrShape)
	// a shape of as many pages with more inodes: the log's pages aren't all of the data area any more
	wide := api.Shape{Pages: 24, Inodes: 16, Cores: 8, Data: 6}
	breaks(t, "more inodes", b, wide, 2, l.slot, api.ErrHeader)
	breaks(t, "more inodes", b, wide, 2, file(5, l.slot.Tail), api.ErrSlot)
}

func TestP6_6Slots(t *testing.T) {
	b, l := threePages(t, chance())
	for ino := -2; ino < 260; ino++ {
		for _, s := range []api.Slot{{}, file(0, 0), {Kind: api.KindDir, Links: 1}} {
			if ino >= 1 && ino <= 8 {
				walks(t, "an empty log", b, small, ino, s, nil, nil)
			} else {
				breaks(t, "no inode", b, small, ino, s, api.ErrSlot)
			}
		}
		if ino != 2 {
			asSaid(t, "another inode", b, small, ino, l.slot)
		}
	}
	for _, n := range wild {
		breaks(t, "no inode", b, small, n, l.slot, api.ErrSlot)
		for _, s := range []api.Slot{{Kind: n, Links: 1, Head: 9, Tail: 2688}, {Kind: 1, Links: n, Head: 9, Tail: 2688}, {Kind: 1, Links: 1, Head: n, Tail: 2688}, {Kind: 1, Links: 1, Head: 9, Tail: n}, {Links: n}, {Head: n}, {Tail: n}} {
			breaks(t, "a wild slot", b, small, 2, s, api.ErrSlot)
		}
	}
	for _, s := range slots() {
		if e := asSaid(t, "any slot", b, small, 2, s); s != (api.Slot{}) && !stands(small, 2, s) && e != api.ErrSlot {
			t.Errorf("%v: %v", s, e)
		}
	}
}

// TestP6_6EveryTail: a walk that ends at each tail that there is, from each page that the log has or hasn't.
func TestP6_6EveryTail(t *testing.T) {
	b, l := threePages(t, chance())
	for tail := 0; tail < 25*512; tail += 64 {
		for head := 4; head <= 24; head++ {
			asSaid(t, "a tail", b, small, 2, file(head, tail))
		}
	}
	for n := 1; n <= 17; n++ {
		page := l.pages[(n-1)/7]
		walks(t, "an earlier tail", b, small, 2, file(9, page*512+128+(n-1)%7*64), l.entries[:n], l.pages[:(n+6)/7])
	}
}

// TestP6_6EveryBit: each bit of the log's pages turned. What isn't looked at is the last page's Next, what stands behind the tail, and six words of each header.
func TestP6_6EveryBit(t *testing.T) {
	b, l := threePages(t, chance())
	for k, page := range l.pages {
		for i := range 512 * 8 {
			at := page*512 + i/8
			b[at] ^= 1 << (i % 8)
			want := api.ErrEntry
			switch {
			case i/8 < 8 && k < 2 || i/8 >= 8 && i/8 < 16:
				want = api.ErrHeader
			case i/8 < 64 || k == 2 && at >= l.slot.Tail:
				want = api.OK
			}
			if e := asSaid(t, fmt.Sprintf("bit %d of page %d", i, page), b, small, 2, l.slot); e != want {
				t.Errorf("bit %d of page %d: %v, want %v", i, page, e, want)
			}
			b[at] ^= 1 << (i % 8)
		}
	}
	walks(t, "all bits as they were", b, small, 2, l.slot, l.entries, l.pages)
}

// TestP6_6OtherPages: what stands on pages that aren't the log's is of no matter.
func TestP6_6OtherPages(t *testing.T) {
	r := chance()
	b, l := threePages(t, r)
	for page := range 24 {
		if !slices.Contains(l.pages, page) {
			r.Read(b[page*512 : page*512+512])
			walks(t, "other bytes elsewhere", b, small, 2, l.slot, l.entries, l.pages)
		}
	}
}

// TestP6_6EveryNext: the first and the second page's Next turned to each page there is; the page that it names is one of the log's inode with a header of its own.
func TestP6_6EveryNext(t *testing.T) {
	b, l := threePages(t, chance())
	for _, page := range []int{9, 5} {
		for next := range 1200 {
			c := slices.Clone(b)
			putSealed(c, page*512, next)
			e := asSaid(t, "another Next", c, small, 2, l.slot)
			switch {
			case next == 0 || next == page || page == 5 && next == 9:
				if e != api.ErrLog {
					t.Errorf("page %d with Next %d: %v", page, next, e)
				}
			case next < 5 || next >= 24:
				if e != api.ErrHeader {
					t.Errorf("page %d with Next %d: %v", page, next, e)
				}
			case page == 9 && next == 5 || page == 5 && next == 20:
				if e != api.OK {
					t.Errorf("page %d with Next %d: %v", page, next, e)
				}
			case page == 9 && next == 20: // the entries of the third page in the second's places
				if e != api.ErrLog {
					t.Errorf("page %d with Next %d: %v", page, next, e)
				}
			}
		}
	}
}

func TestP6_6Owners(t *testing.T) {
	b, l := threePages(t, chance())
	for _, page := range l.pages {
		for owner := range 300 {
			c := slices.Clone(b)
			putSealed(c, page*512+8, owner)
			if e := asSaid(t, "another owner", c, small, 2, l.slot); e == api.OK != (owner == 2) || owner != 2 && e != api.ErrHeader {
				t.Errorf("page %d of inode %d: %v", page, owner, e)
			}
		}
	}
	for _, w := range []uint64{2, 2 << 32, codec.Seal(9*512, 2), codec.Seal(5*512+8, 2), math.MaxUint64} {
		c := slices.Clone(b)
		put(c, 9*512+8, w)
		breaks(t, "an owner that isn't sealed", c, small, 2, l.slot, api.ErrHeader)
		c = slices.Clone(b)
		put(c, 9*512, w)
		breaks(t, "a Next that isn't sealed", c, small, 2, l.slot, api.ErrHeader)
		c = slices.Clone(b)
		put(c, 20*512, w)
		walks(t, "the last page's Next", c, small, 2, l.slot, l.entries, l.pages)
	}
}

// lay: an entry's line into an image.
func lay(b []byte, at int, e api.Entry) {
	l, no := layout.PackEntry(e)
	if no != api.OK {
		panic("a test's entry isn't good")
	}
	copy(b[at:], l[:])
}

// placeOf: the address of the k-th entry, counted from 0.
func (l log) placeOf(k int) int { return l.pages[k/7]*512 + 64 + k%7*64 }

func TestP6_6Seqs(t *testing.T) {
	b, l := threePages(t, chance())
	for k := range l.entries {
		for _, seq := range []uint64{1, 2, 7, 8, 14, 15, 17, 18, uint64(k), uint64(k + 2), api.MaxSeq, 1<<32 + uint64(k) + 1} {
			if seq == 0 {
				continue
			}
			c := slices.Clone(b)
			e := l.entries[k]
			e.Seq = seq
			lay(c, l.placeOf(k), e)
			if seq == uint64(k+1) {
				walks(t, "its place", c, small, 2, l.slot, l.entries, l.pages)
			} else {
				breaks(t, "another place", c, small, 2, l.slot, api.ErrLog)
			}
		}
	}
}

// TestP6_6EntriesOfOtherShapes: lines of good entries that don't stand in the shape, at each place.
func TestP6_6EntriesOfOtherShapes(t *testing.T) {
	b, l := threePages(t, chance())
	for k := range l.entries {
		for _, e := range []api.Entry{{Kind: api.EntWrite, Count: 1, Page: 24}, {Kind: api.EntWrite, Count: 2, Page: 23}, {Kind: api.EntWrite, Count: 16, Page: 9}, {Kind: api.EntWrite, Count: 1, Page: 1023}, {Kind: api.EntAdd, Ino: 9, Name: "a"}, {Kind: api.EntAdd, Ino: 256, Name: "a"}} {
			c := slices.Clone(b)
			e.Seq = uint64(k + 1)
			lay(c, l.placeOf(k), e)
			breaks(t, "an entry of another shape", c, small, 2, l.slot, api.ErrEntry)
			e.Seq += 3 // the entry is looked at ahead of its Seq
			lay(c, l.placeOf(k), e)
			breaks(t, "an entry of another shape and place", c, small, 2, l.slot, api.ErrEntry)
		}
		for _, e := range edgeEntries {
			c := slices.Clone(b)
			e.Seq = uint64(k + 1)
			lay(c, l.placeOf(k), e)
			want := slices.Clone(l.entries)
			want[k] = e
			walks(t, "an entry at the edge", c, small, 2, l.slot, want, l.pages)
		}
	}
	// a table of two pages: page 5 is none of the data area
	sh := api.Shape{Pages: 24, Inodes: 16, Cores: 1, Data: 6}
	d := blank(t, sh)
	s := appends(t, d, sh, 2, file(0, 0), 0, sizes(1), []int{6})
	c := d.View()
	lay(c, 6*512+64, api.Entry{Kind: api.EntWrite, Seq: 1, Count: 2, Page: 5})
	breaks(t, "a page of the table", c, sh, 2, s, api.ErrEntry)
}

// breach: something that is wrong with the log of threePages, and the error that it makes.
type breach struct {
	name string
	bend func(b []byte, l log)
	e    api.Errno
}

// inOrder: breaches in the order in which the walk meets them.
var inOrder = []breach{
	{"owner of the first page", func(b []byte, l log) { b[9*512+8] ^= 1 }, api.ErrHeader},
	{"Next of the first page", func(b []byte, l log) { putSealed(b, 9*512, 24) }, api.ErrHeader},
	{"the first entry's Seq", func(b []byte, l log) { lay(b, l.placeOf(0), api.Entry{Kind: api.EntSize, Seq: 9}) }, api.ErrLog},
	{"the second entry", func(b []byte, l log) { b[l.placeOf(1)] ^= 1 }, api.ErrEntry},
	{"the seventh entry's Seq", func(b []byte, l log) { lay(b, l.placeOf(6), api.Entry{Kind: api.EntSize, Seq: 8}) }, api.ErrLog},
	{"owner of the second page", func(b []byte, l log) { b[5*512+8] ^= 1 }, api.ErrHeader},
	{"the eighth entry", func(b []byte, l log) { b[l.placeOf(7)+60] ^= 1 }, api.ErrEntry},
	{"the second page goes back to the first", func(b []byte, l log) { putSealed(b, 5*512, 9) }, api.ErrLog},
	{"owner of the third page", func(b []byte, l log) { b[20*512+8] ^= 1 }, api.ErrHeader},
	{"the last entry", func(b []byte, l log) { b[l.placeOf(16)+20] ^= 1 }, api.ErrEntry},
}

// TestP6_6TheFirstBreach: of two breaches, the one that the walk meets first.
func TestP6_6TheFirstBreach(t *testing.T) {
	b, l := threePages(t, chance())
	for i, first := range inOrder {
		for _, second := range inOrder[i:] {
			c := slices.Clone(b)
			second.bend(c, l)
			if second.name != first.name {
				first.bend(c, l)
			}
			breaks(t, first.name+", then "+second.name, c, small, 2, l.slot, first.e)
		}
	}
}

// TestP6_6BehindABreach: however long the chain goes on behind a breach, and whether it goes round: the walk ends.
func TestP6_6BehindABreach(t *testing.T) {
	var pages []int
	for p := large.Data; p < large.Pages; p++ {
		pages = append(pages, p)
	}
	d := blank(t, large)
	n := 7 * len(pages)
	s := appends(t, d, large, 200, file(0, 0), 0, sizes(n), pages)
	b := d.View()
	walks(t, "the longest log", b, large, 200, s, numbered(0, sizes(n)), pages)
	b[pages[0]*512+70] ^= 1
	breaks(t, "the first entry", b, large, 200, s, api.ErrEntry)
	b[pages[0]*512+70] ^= 1
	for _, to := range []int{pages[0], pages[500], pages[len(pages)-2]} {
		putSealed(b, pages[len(pages)-2]*512, to)
		breaks(t, "the last but one goes back", b, large, 200, s, api.ErrLog)
	}
	b[pages[3]*512+70] ^= 1
	breaks(t, "and an entry", b, large, 200, s, api.ErrEntry)
}

// TestP6_6HeadIsTheLastPage: then its Next isn't looked at, though other pages hang on it.
func TestP6_6HeadIsTheLastPage(t *testing.T) {
	b, l := threePages(t, chance())
	for n := 1; n <= 7; n++ {
		slot := file(9, 9*512+64+64*n)
		walks(t, "the first page alone", b, small, 2, slot, l.entries[:n], []int{9})
		c := slices.Clone(b)
		put(c, 9*512, math.MaxUint64)
		walks(t, "whatever its Next is", c, small, 2, slot, l.entries[:n], []int{9})
	}
	breaks(t, "the second page alone", b, small, 2, file(5, 5*512+128), api.ErrLog)
}

// TestP6_6DrawnBreaches: logs of any length, spoilt at drawn places.
func TestP6_6DrawnBreaches(t *testing.T) {
	r := chance()
	seen := map[api.Errno]int{}
	for range 60 {
		sh := []api.Shape{small, middling}[r.Intn(2)]
		d, l := made(t, r, sh, 1+r.Intn(8), 1+r.Intn(2))
		for range 1 + r.Intn(4) {
			l = l.grown(t, r, d, sh, r.Intn(16))
		}
		if l.slot.Tail == 0 {
			continue
		}
		b := d.View()
		walks(t, "a drawn log", b, sh, l.ino, l.slot, l.entries, l.pages)
		for range 60 {
			c := slices.Clone(b)
			for range 1 + r.Intn(3) {
				page := l.pages[r.Intn(len(l.pages))] * 512
				switch r.Intn(4) {
				case 0:
					c[page+r.Intn(512)] ^= 1 << r.Intn(8)
				case 1:
					putSealed(c, page, r.Intn(sh.Pages+1))
				case 2:
					other := l.pages[r.Intn(len(l.pages))] * 512
					copy(c[page+64+64*r.Intn(7):], b[other+64+64*r.Intn(3):other+64+64*3])
				case 3:
					c[page+r.Intn(16)] = byte(r.Int())
				}
			}
			seen[asSaid(t, "a drawn breach", c, sh, l.ino, l.slot)]++
		}
	}
	for _, e := range []api.Errno{api.OK, api.ErrHeader, api.ErrEntry, api.ErrLog} {
		if seen[e] < 20 {
			t.Errorf("%v came %d times alone", e, seen[e])
		}
	}
}

// TestP6_6AnyBytes: of bytes that are anything no log is read.
func TestP6_6AnyBytes(t *testing.T) {
	r := chance()
	for range 300 {
		b := filled(r, small)
		for _, tail := range []int{0, 2688, 3072, 23*512 + 128, 24 * 512} {
			asSaid(t, "any bytes", b, small, 1+r.Intn(8), file(min(tail, 5+r.Intn(19)), tail))
		}
	}
	if _, _, e := ilog.Walk(filled(r, large), large, 7, file(36, 40*512)); e != api.ErrHeader {
		t.Errorf("Walk of any bytes: %v", e)
	}
}
