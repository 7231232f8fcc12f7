package ilog_test

import (
	"fmt"
	"math"
	"slices"
	"testing"

	"furrow/api"
	"furrow/codec"
	"furrow/ilog"
	"furrow/pmem"
)

// ask: the arguments of an Append.
type ask struct {
	shape   api.Shape
	ino     int
	slot    api.Slot
	count   int
	entries []api.Entry
	pages   []int
}

// refuses: whether Append answers this error and does nothing.
func refuses(t *testing.T, d *pmem.Device, a ask, want api.Errno) {
	t.Helper()
	what := fmt.Sprintf("Append(%+v)", a)
	still(t, what, d, func() {
		if s, e := ilog.Append(d, a.shape, a.ino, a.slot, a.count, a.entries, a.pages); e != want || s != (api.Slot{}) {
			t.Errorf("%s = %v, %v; want %v", what, s, e, want)
		}
	})
}

// takes: whether Append of no entries takes these arguments, and gives the slot back.
func takes(t *testing.T, d *pmem.Device, a ask) {
	t.Helper()
	what := fmt.Sprintf("Append(%+v)", a)
	still(t, what, d, func() {
		if s, e := ilog.Append(d, a.shape, a.ino, a.slot, a.count, a.entries, a.pages); e != api.OK || s != a.slot {
			t.Errorf("%s = %v, %v", what, s, e)
		}
	})
}

// bad: an entry that is never one, and a page that is never one, behind all else that may be refused.
var (
	bad     = api.Entry{Kind: 9}
	badPage = []int{0}
)

func TestP6_2Shapes(t *testing.T) {
	for _, sh := range []api.Shape{small, middling, large} {
		d := blank(t, sh)
		for _, by := range []int{-512, -8, -1, 1, 8, 512, 1 << 32, math.MinInt} {
			for _, wrong := range []api.Shape{
				{Pages: sh.Pages + by, Inodes: sh.Inodes, Cores: sh.Cores, Data: sh.Data},
				{Pages: sh.Pages, Inodes: sh.Inodes + by, Cores: sh.Cores, Data: sh.Data},
				{Pages: sh.Pages, Inodes: sh.Inodes, Cores: sh.Cores, Data: sh.Data + by},
			} {
				refuses(t, d, ask{wrong, 1, file(0, 0), 0, nil, nil}, api.ErrShape)
				refuses(t, d, ask{wrong, 0, file(1, 0), 5, []api.Entry{bad}, badPage}, api.ErrShape)
			}
		}
		for _, cores := range []int{0, -1, 9, 1<<32 + 1, math.MinInt} {
			refuses(t, d, ask{api.Shape{Pages: sh.Pages, Inodes: sh.Inodes, Cores: cores, Data: sh.Data}, 1, file(0, 0), 0, nil, nil}, api.ErrShape)
		}
		refuses(t, d, ask{api.Shape{}, 1, file(0, 0), 0, nil, nil}, api.ErrShape)
		takes(t, d, ask{sh, 1, file(0, 0), 0, nil, nil})
	}
	for _, pages := range []int{1, 4, 23, 25, 39, 41, 1023} {
		for _, sh := range []api.Shape{small, middling, large} {
			refuses(t, load(t, make([]byte, pages*512)), ask{sh, 1, file(0, 0), 0, nil, nil}, api.ErrShape)
		}
	}
}

func TestP6_2Inodes(t *testing.T) {
	for _, sh := range []api.Shape{small, middling, large} {
		d := blank(t, sh)
		for ino := -2; ino <= 260; ino++ {
			if ino >= 1 && ino <= sh.Inodes {
				takes(t, d, ask{sh, ino, file(0, 0), 0, nil, nil})
			} else {
				refuses(t, d, ask{sh, ino, file(0, 0), 0, nil, nil}, api.ErrSlot)
			}
		}
		for _, ino := range wild {
			refuses(t, d, ask{sh, ino, file(0, 0), 0, []api.Entry{bad}, badPage}, api.ErrSlot)
		}
	}
}

// TestP6_2EverySlot: slots of all kinds, with a count that fits their tail.
func TestP6_2EverySlot(t *testing.T) {
	for _, sh := range []api.Shape{small, middling} {
		d := blank(t, sh)
		numbers := append([]int{0, 1, 2, 4, 5, 6, 7, 23, 24, 39, 40, 1023, 1024}, wild...)
		tails := append([]int{0, 64, 512, 2560, 2624, 2688, 2689, 3072, 3136, 3584, 3648, 3712, 12288, 12352, 12416, 20480, 20608, 524288}, wild...)
		for _, kind := range []int{-1, 0, 1, 2, 3, 257} {
			for _, links := range []int{-1, 0, 1, 2, 100, 101, 1<<32 + 1} {
				for _, head := range numbers {
					for _, tail := range tails {
						slot := api.Slot{Kind: kind, Links: links, Head: head, Tail: tail}
						count := 0
						if tail != 0 {
							count = 1
						}
						s, e := ilog.Append(d, sh, 3, slot, count, nil, nil)
						if stands(sh, 3, slot) && (s != slot || e != api.OK) || !stands(sh, 3, slot) && (s != api.Slot{} || e != api.ErrSlot) {
							t.Errorf("Append(%v, %v) = %v, %v", sh, slot, s, e)
						}
					}
				}
			}
		}
		if d.Steps() != 0 {
			t.Errorf("%d steps", d.Steps())
		}
	}
}

func TestP6_2Counts(t *testing.T) {
	for _, sh := range []api.Shape{small, middling, large} {
		d := blank(t, sh)
		one := file(sh.Data, sh.Data*512+128)
		for count := -3; count <= 7*sh.Pages+10; count++ {
			if count >= 1 && count <= 7*sh.Pages {
				if s, e := ilog.Append(d, sh, 1, one, count, nil, nil); s != one || e != api.OK {
					t.Errorf("count %d of %v: %v, %v", count, sh, s, e)
				}
			} else {
				refuses(t, d, ask{sh, 1, one, count, []api.Entry{bad}, badPage}, api.ErrSlot)
			}
			if count != 0 && count < 10 {
				refuses(t, d, ask{sh, 1, file(0, 0), count, nil, nil}, api.ErrSlot)
			}
		}
		for _, count := range wild {
			refuses(t, d, ask{sh, 1, one, count, nil, nil}, api.ErrSlot)
			refuses(t, d, ask{sh, 1, file(0, 0), count, nil, nil}, api.ErrSlot)
		}
	}
}

// TestP6_2HowManyPages: for each number of entries just as many pages as Need says.
func TestP6_2HowManyPages(t *testing.T) {
	for _, tail := range []int{0, 2688, 2880, 3008, 3072} {
		slot, count := file(0, 0), 0
		if tail != 0 {
			slot, count = file(5, tail), (tail-2624)/64
		}
		for n := range 30 {
			for p := range 8 {
				d := blank(t, small)
				a := ask{small, 2, slot, count, sizes(n), []int{8, 23, 6, 7, 22, 9, 10}[:p]}
				if p != needs(tail, n) {
					refuses(t, d, a, api.ErrPages)
					a.entries = append(a.entries, bad) // behind it comes the entries' turn, if the number of pages isn't right by now
					if p != needs(tail, n+1) {
						refuses(t, d, a, api.ErrPages)
					}
				} else if s := appends(t, d, small, 2, slot, count, a.entries, a.pages); n > 0 && s == slot {
					t.Errorf("the slot of %v is as it was", a)
				}
			}
		}
	}
}

func TestP6_2WhichPages(t *testing.T) {
	for _, sh := range []api.Shape{small, middling} {
		head, last := sh.Data+1, sh.Data+3
		for page := -2; page < 1030; page++ {
			in := page >= sh.Data && page < sh.Pages
			d := blank(t, sh)
			for _, a := range []ask{
				{sh, 2, file(0, 0), 0, sizes(1), []int{page}},
				{sh, 2, file(head, last*512+512), 14, sizes(1), []int{page}},
				{sh, 2, file(head, last*512+128), 8, sizes(7), []int{page}},
			} {
				own := a.count > 0 && (page == head || page == last)
				if in && !own {
					appends(t, d, sh, a.ino, a.slot, a.count, a.entries, a.pages)
				} else {
					refuses(t, d, a, api.ErrPages)
				}
			}
		}
		for _, page := range wild {
			refuses(t, blank(t, sh), ask{sh, 2, file(0, 0), 0, sizes(1), []int{page}}, api.ErrPages)
		}
	}
}

// TestP6_2WhereTheWrongPageStands: at each place of the list; and a page of the log's middle, which nobody looks for, is taken.
func TestP6_2WhereTheWrongPageStands(t *testing.T) {
	full := file(6, 8*512+512)
	for n := 1; n <= 5; n++ {
		for k := range n {
			for _, page := range []int{6, 8, 4, 24, 0, -1, 1024} {
				pages := []int{10, 11, 12, 13, 14}[:n]
				pages[k] = page
				refuses(t, blank(t, small), ask{small, 2, full, 14, append(sizes(7*n-1), bad), pages}, api.ErrPages)
			}
			for j := range k {
				pages := []int{10, 11, 12, 13, 14}[:n]
				pages[k] = pages[j]
				refuses(t, blank(t, small), ask{small, 2, full, 14, append(sizes(7*n-1), bad), pages}, api.ErrPages)
				refuses(t, blank(t, small), ask{small, 2, file(0, 0), 0, sizes(7 * n), pages}, api.ErrPages)
			}
		}
	}
	appends(t, blank(t, small), small, 2, full, 21, sizes(1), []int{7})
}

// TestP6_2AllPages: an Append may take all pages of the data area, and no more.
func TestP6_2AllPages(t *testing.T) {
	for _, sh := range []api.Shape{small, middling, large} {
		var pages []int
		for p := sh.Data; p < sh.Pages; p++ {
			pages = append(pages, p)
		}
		d := blank(t, sh)
		s := appends(t, d, sh, 1, file(0, 0), 0, sizes(7*len(pages)), pages)
		if s != file(sh.Data, sh.Pages*512) {
			t.Errorf("the slot is %v", s)
		}
		walks(t, "all pages", d.View(), sh, 1, s, numbered(0, sizes(7*len(pages))), pages)
		for _, p := range []int{sh.Data, sh.Pages, 0} {
			refuses(t, blank(t, sh), ask{sh, 1, file(0, 0), 0, sizes(7*len(pages) + 1), append(slices.Clone(pages), p)}, api.ErrPages)
		}
	}
}

// wrongEntries: such as are no good ones, or stand in no shape of 24 pages and 8 inodes.
var wrongEntries = []api.Entry{
	{}, {Kind: 5}, {Kind: -1}, {Kind: 257, Size: 1},
	{Kind: api.EntSize, Size: -1}, {Kind: api.EntSize, Size: 262145}, {Kind: api.EntSize, Count: 1}, {Kind: api.EntSize, Name: "a"}, {Kind: api.EntSize, Size: 1 << 32},
	{Kind: api.EntWrite, Count: 1, Page: 4}, {Kind: api.EntWrite, Count: 1, Page: 24}, {Kind: api.EntWrite, Count: 2, Page: 23}, {Kind: api.EntWrite, Count: 16, Page: 9}, {Kind: api.EntWrite, Count: 0, Page: 5}, {Kind: api.EntWrite, Count: 17, Page: 5}, {Kind: api.EntWrite, Count: 1, Page: 1023}, {Kind: api.EntWrite, Count: math.MaxInt, Page: math.MaxInt}, {Kind: api.EntWrite, Count: 16, Page: 5, Off: 497}, {Kind: api.EntWrite, Count: 1, Page: 5, Ino: 2},
	{Kind: api.EntAdd, Ino: 9, Name: "a"}, {Kind: api.EntAdd, Ino: 256, Name: "a"}, {Kind: api.EntAdd, Ino: 1, Name: "a"}, {Kind: api.EntAdd, Ino: 2}, {Kind: api.EntAdd, Ino: 2, Name: ".."}, {Kind: api.EntAdd, Ino: 2, Name: long(29)}, {Kind: api.EntAdd, Ino: math.MinInt, Name: "a"},
	{Kind: api.EntDrop}, {Kind: api.EntDrop, Name: "a/b"}, {Kind: api.EntDrop, Name: "a", Ino: 2},
}

// edgeEntries: such as just stand in a shape of 24 pages and 8 inodes.
var edgeEntries = []api.Entry{
	{Kind: api.EntSize}, {Kind: api.EntSize, Size: 262144},
	{Kind: api.EntWrite, Count: 1, Page: 5}, {Kind: api.EntWrite, Count: 1, Page: 23}, {Kind: api.EntWrite, Count: 16, Page: 8, Off: 496, Size: 262144},
	{Kind: api.EntAdd, Ino: 8, Name: "a"}, {Kind: api.EntAdd, Ino: 2, Name: long(28)}, {Kind: api.EntDrop, Name: "\xFF"},
}

func TestP6_2Entries(t *testing.T) {
	one := file(5, 2688)
	for _, e := range wrongEntries {
		d := blank(t, small)
		refuses(t, d, ask{small, 2, one, 1, []api.Entry{e}, nil}, api.ErrEntry)
		for k := range 9 {
			list := sizes(9)
			list[k] = e
			refuses(t, d, ask{small, 2, one, 1, list, []int{7}}, api.ErrEntry)
			refuses(t, d, ask{small, 2, file(0, 0), 0, list, []int{7, 8}}, api.ErrEntry)
			refuses(t, d, ask{small, 2, one, 1, list, nil}, api.ErrPages)
			refuses(t, d, ask{small, 2, one, 0, list, nil}, api.ErrSlot)
		}
		e.Seq = 1
		refuses(t, d, ask{small, 2, one, 1, []api.Entry{e}, nil}, api.ErrEntry)
	}
	for _, e := range edgeEntries {
		for _, seq := range []uint64{0, 1, 77, api.MaxSeq, api.MaxSeq + 1, math.MaxUint64} {
			e.Seq = seq
			d := blank(t, small)
			s := appends(t, d, small, 2, file(0, 0), 0, []api.Entry{e}, []int{7})
			walks(t, "an entry at the edge", d.View(), small, 2, s, numbered(0, []api.Entry{e}), []int{7})
		}
	}
}

// TestP6_2ShapesOfEntries: what one shape refuses a larger one takes.
func TestP6_2ShapesOfEntries(t *testing.T) {
	for _, c := range []struct {
		e    api.Entry
		want [3]bool // small, middling, large
	}{
		{api.Entry{Kind: api.EntWrite, Count: 1, Page: 5}, [3]bool{true, false, false}},
		{api.Entry{Kind: api.EntWrite, Count: 2, Page: 6}, [3]bool{true, false, false}},
		{api.Entry{Kind: api.EntWrite, Count: 1, Page: 7}, [3]bool{true, true, false}},
		{api.Entry{Kind: api.EntWrite, Count: 2, Page: 23}, [3]bool{false, true, false}},
		{api.Entry{Kind: api.EntWrite, Count: 4, Page: 36}, [3]bool{false, true, true}},
		{api.Entry{Kind: api.EntWrite, Count: 5, Page: 36}, [3]bool{false, false, true}},
		{api.Entry{Kind: api.EntWrite, Count: 16, Page: 1008}, [3]bool{false, false, true}},
		{api.Entry{Kind: api.EntAdd, Ino: 8, Name: "a"}, [3]bool{true, true, true}},
		{api.Entry{Kind: api.EntAdd, Ino: 24, Name: "a"}, [3]bool{false, true, true}},
		{api.Entry{Kind: api.EntAdd, Ino: 256, Name: "a"}, [3]bool{false, false, true}},
	} {
		for i, sh := range []api.Shape{small, middling, large} {
			d := blank(t, sh)
			a := ask{sh, 1, file(0, 0), 0, []api.Entry{c.e}, []int{sh.Data}}
			if c.want[i] {
				appends(t, d, sh, 1, a.slot, 0, a.entries, a.pages)
			} else {
				refuses(t, d, a, api.ErrEntry)
			}
		}
	}
}

// TestP6_2OnADeadDevice: a refusal is the same there, and no entries are no step.
func TestP6_2OnADeadDevice(t *testing.T) {
	d := blank(t, small)
	d.Arm(0)
	refuses(t, d, ask{middling, 2, file(0, 0), 0, nil, nil}, api.ErrShape)
	refuses(t, d, ask{small, 0, file(0, 0), 0, nil, nil}, api.ErrSlot)
	refuses(t, d, ask{small, 2, file(0, 0), 0, sizes(1), nil}, api.ErrPages)
	refuses(t, d, ask{small, 2, file(0, 0), 0, []api.Entry{bad}, []int{5}}, api.ErrEntry)
	refuses(t, d, ask{small, 2, file(0, 0), 0, sizes(1), []int{5}}, api.ErrDead)
	takes(t, d, ask{small, 2, file(0, 0), 0, nil, nil})
	takes(t, d, ask{small, 2, file(5, 3072), 168, []api.Entry{}, []int{}})
}

// steps: whether an Append, whole and cut behind each of its steps, leaves just what the steps of 6.3 leave.
func steps(t *testing.T, b []byte, a ask) {
	t.Helper()
	acts, want := appending(a.ino, a.slot, a.count, a.entries, a.pages)
	for cut := 0; cut <= len(acts); cut++ {
		d, m := load(t, b), load(t, b)
		d.Arm(cut)
		m.Arm(cut)
		e := play(m, acts)
		s, f := ilog.Append(d, a.shape, a.ino, a.slot, a.count, a.entries, a.pages)
		if e != f || e == api.OK && s != want || e != api.OK && s != (api.Slot{}) {
			t.Fatalf("Append(%+v) with %d steps = %v, %v; want %v, %v", a, cut, s, f, want, e)
		}
		alike(t, fmt.Sprintf("Append(%+v) with %d steps", a, cut), d, m)
	}
}

func TestP6_3Steps(t *testing.T) {
	r := chance()
	for _, a := range []ask{
		{small, 2, file(0, 0), 0, sizes(1), []int{5}},
		{small, 2, file(0, 0), 0, sizes(8), []int{23, 5}},
		{small, 8, file(5, 2688), 1, sizes(6), nil},
		{small, 1, file(5, 2688), 1, sizes(7), []int{9}},
		{small, 1, file(9, 3072), 14, sizes(1), []int{7}},
		{small, 1, file(9, 3072), 14, sizes(15), []int{23, 6, 8}},
		{small, 3, file(7, 23*512+512), 20, sizes(2), []int{5}},
		{middling, 24, api.Slot{Kind: api.KindDir, Links: 1, Head: 39, Tail: 39*512 + 192}, 2, sizes(10), []int{7}},
		{middling, 24, api.Slot{Kind: api.KindFile, Links: 100, Head: 39, Tail: 8*512 + 192}, 280, sizes(5), nil},
	} {
		steps(t, filled(r, a.shape), a)
	}
}

func TestP6_3DrawnSteps(t *testing.T) {
	r := chance()
	for range 12 {
		sh := []api.Shape{small, middling}[r.Intn(2)]
		used := r.Intn(8)
		slot, count := file(0, 0), 0
		if used > 0 {
			two := drawnPages(r, sh, 2)
			slot, count = file(two[0], two[r.Intn(2)]*512+64+64*used), 1+r.Intn(7*sh.Pages)
		}
		n := 1 + r.Intn(20)
		pages := drawnPages(r, sh, needs(slot.Tail, n), slot.Head, (slot.Tail-1)/512)
		steps(t, filled(r, sh), ask{sh, 1 + r.Intn(sh.Inodes), slot, count, drawn(r, sh, n), pages})
	}
}

// TestP6_3Doubts: what was in doubt ahead of an Append stays so, but in the lines that it stores to.
func TestP6_3Doubts(t *testing.T) {
	d, m := blank(t, small), blank(t, small)
	for _, x := range []*pmem.Device{d, m} {
		for at := 0; at < 24*512; at += 24 {
			x.Store(at, uint64(at)+1)
			if at%48 == 0 {
				x.Flush(at)
			}
		}
	}
	acts, want := appending(2, file(5, 2688), 1, sizes(7), []int{9})
	play(m, acts)
	if s := appends(t, d, small, 2, file(5, 2688), 1, sizes(7), []int{9}); s != want {
		t.Errorf("the slot is %v, want %v", s, want)
	}
	alike(t, "with doubts", d, m)
}

// TestP6_3Nothing: no entries are no steps, and the slot comes back as it is, whatever it is.
func TestP6_3Nothing(t *testing.T) {
	d := blank(t, middling)
	for _, slot := range []api.Slot{file(0, 0), {Kind: api.KindDir, Links: 1}, {Kind: api.KindFile, Links: 100, Head: 39, Tail: 7*512 + 128}, file(7, 40*512)} {
		count := min(slot.Tail, 1)
		takes(t, d, ask{middling, 24, slot, count, nil, nil})
		takes(t, d, ask{middling, 24, slot, count, []api.Entry{}, []int{}})
		refuses(t, d, ask{middling, 24, slot, count, nil, []int{20}}, api.ErrPages)
	}
}

// TestP6_3TheSlotOnTheDevice: Append doesn't touch the table, and Kind and Links stay what they were.
func TestP6_3TheSlotOnTheDevice(t *testing.T) {
	r := chance()
	b := filled(r, small)
	d := load(t, b)
	slot := api.Slot{Kind: api.KindFile, Links: 77, Head: 6, Tail: 8*512 + 512}
	s := appends(t, d, small, 5, slot, 9, sizes(3), []int{20})
	if s != (api.Slot{Kind: api.KindFile, Links: 77, Head: 6, Tail: 20*512 + 256}) {
		t.Errorf("the slot is %v", s)
	}
	v := d.View()
	if !slices.Equal(v[:5*512], b[:5*512]) {
		t.Error("what stands ahead of the data area was changed")
	}
	if !slices.Equal(v[20*512+256:], b[20*512+256:]) {
		t.Error("what stands behind the new tail was changed")
	}
	if word(v, 8*512) != codec.Seal(8*512, 20) || word(v, 8*512+8) != word(b, 8*512+8) {
		t.Error("the last page's header isn't right")
	}
}
