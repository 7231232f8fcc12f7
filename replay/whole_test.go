package replay_test

import (
	"fmt"
	"slices"
	"testing"

	"furrow/api"
	"furrow/layout"
	"furrow/replay"
)

// fault: one thing that is wrong with the image that family gives, and what Replay tells of it.
type fault struct {
	what  string
	e     api.Errno
	place int
	spoil func(d *disk)
}

// family: the root has a directory 2 with a file 3, and the files 4 and 6.
func family(t *testing.T) *disk {
	t.Helper()
	d := formatted(t, small)
	d.log(1, api.KindDir, 1, []int{5}, add("d", 2), add("g", 4), add("h", 6))
	d.log(2, api.KindDir, 1, []int{6}, add("f", 3))
	d.log(3, api.KindFile, 1, []int{7}, write(0, 2, 10, 700))
	d.log(4, api.KindFile, 1, []int{8}, write(0, 1, 12, 9))
	d.slot(6, api.Slot{Kind: api.KindFile, Links: 1})
	return d
}

// faults in the order in which they are told.
var faults = []fault{
	{"no superblock", api.ErrSuper, 0, func(d *disk) { d.b[0], d.b[64] = 0, 0 }},
	{"no journal", api.ErrUndo, 512, func(d *disk) { d.put(512, 7) }},
	{"a log of nothing", api.ErrMeaning, 4, func(d *disk) { d.log(4, api.KindFile, 1, []int{8}, write(0, 1, 12, 9), drop("a")) }},
	{"a slot", api.ErrSlot, 5, func(d *disk) { d.put(layout.SlotAt(5), 7) }},
	{"a page twice", api.ErrTwice, 10, func(d *disk) { d.log(3, api.KindFile, 1, []int{7}, write(0, 2, 10, 700), write(1, 2, 10, 1500)) }},
	{"no root", api.ErrRoot, 1, func(d *disk) { d.slot(1, api.Slot{}) }},
	{"a name that hangs", api.ErrHang, 2, func(d *disk) {
		d.log(2, api.KindDir, 1, []int{6}, add("f", 3), drop("f"), add("ff", 3), add("x", 5))
	}},
	{"a count", api.ErrCount, 6, func(d *disk) { d.slot(6, api.Slot{Kind: api.KindFile, Links: 2}) }},
	{"a ring", api.ErrLost, 7, func(d *disk) {
		d.log(7, api.KindDir, 1, []int{20}, add("x", 8))
		d.log(8, api.KindDir, 1, []int{21}, add("y", 7))
	}},
}

// TestP11_4Order: each fault, and each two and three of them: the first is told.
func TestP11_4Order(t *testing.T) {
	if _, err := replay.Replay(family(t).b); err != nil {
		t.Fatal(err)
	}
	for i, a := range faults {
		for k, b := range faults[i:] {
			for _, c := range faults[i+k:] {
				d := family(t)
				c.spoil(d)
				b.spoil(d)
				a.spoil(d)
				corrupt(t, fmt.Sprintf("%s, %s, %s", a.what, b.what, c.what), d.b, a.e, a.place)
			}
		}
	}
}

// TestP11_4LeastInode: of two broken inodes the lesser one's error, whatever they are.
func TestP11_4LeastInode(t *testing.T) {
	broken := []struct {
		e     api.Errno
		spoil func(d *disk, ino, page int)
	}{
		{api.ErrSlot, func(d *disk, ino, page int) { d.put(layout.SlotAt(ino), 7) }},
		{api.ErrSlot, func(d *disk, ino, page int) {
			d.slot(ino, api.Slot{Kind: api.KindFile, Links: 1, Head: 24, Tail: 5*512 + 128})
		}},
		{api.ErrHeader, func(d *disk, ino, page int) {
			d.slot(ino, api.Slot{Kind: api.KindFile, Links: 1, Head: page, Tail: page*512 + 128})
		}},
		{api.ErrEntry, func(d *disk, ino, page int) {
			d.hold(page*512+8, ino)
			d.slot(ino, api.Slot{Kind: api.KindFile, Links: 1, Head: page, Tail: page*512 + 128})
		}},
		{api.ErrLog, func(d *disk, ino, page int) {
			d.log(ino, api.KindFile, 1, []int{page}, sized(1), sized(2), sized(3), sized(4), sized(5), sized(6), sized(7))
			d.hold(page*512, page)
			d.slot(ino, api.Slot{Kind: api.KindFile, Links: 1, Head: page, Tail: 5*512 + 128})
		}},
		{api.ErrMeaning, func(d *disk, ino, page int) { d.log(ino, api.KindFile, 1, []int{page}, add("a", 2)) }},
	}
	for _, a := range broken {
		for _, b := range broken {
			for ino := 1; ino < 8; ino++ {
				d := formatted(t, small)
				b.spoil(d, 8, 23)
				a.spoil(d, ino, 22)
				corrupt(t, "two", d.b, a.e, ino)
			}
		}
	}
}

// TestP11_4Journal: the errors of the overlay, and what follows is asked of it.
func TestP11_4Journal(t *testing.T) {
	r := chance()
	z := formatted(t, small)
	z.hold(512, 1)
	corrupt(t, "no records", z.b, api.ErrUndo, 512)
	z = formatted(t, small)
	z.hold(512, 9)
	corrupt(t, "too many records", z.b, api.ErrUndo, 512)
	z = formatted(t, small)
	z.pending(r, 2048)
	z.put(520, 0)
	corrupt(t, "no sum", z.b, api.ErrUndo, 512)
	z = formatted(t, small)
	z.pending(r, layout.SlotAt(9))
	corrupt(t, "an inode that the device hasn't", z.b, api.ErrUndo, 512)
	z = formatted(t, small)
	z.put(layout.SlotAt(5), 7)
	z.pending(r, layout.SlotAt(5))
	z.slot(5, api.Slot{})
	corrupt(t, "what is put back is broken", z.b, api.ErrSlot, 5)
	z = formatted(t, small)
	z.slot(1, api.Slot{})
	z.pending(r, 2048)
	z.slot(1, api.Slot{Kind: api.KindDir, Links: 1})
	corrupt(t, "what is put back has no root", z.b, api.ErrRoot, 1)
}

// TestP11_4Supers: where both lines are good the first counts, also if the second says something else; a superblock of another length doesn't count.
func TestP11_4Supers(t *testing.T) {
	d := formatted(t, small)
	line := func(s api.Super) []byte {
		l, e := layout.PackSuper(s)
		if e != api.OK {
			t.Fatal(e)
		}
		return l[:]
	}
	copy(d.b[64:], line(api.Super{Pages: 24, Inodes: 16, Cores: 2}))
	means(t, "the first", d.b, bare())
	d.b[0] ^= 1
	more := api.State{Shape: api.Shape{Pages: 24, Inodes: 16, Cores: 2, Data: 6}, Nodes: []api.Node{dir(1)}, Free: []api.Span{{From: 6, Count: 18}}}
	means(t, "the second", d.b, more)
	copy(d.b, line(api.Super{Pages: 25, Inodes: 8, Cores: 1}))
	means(t, "the first has another length", d.b, more)
	copy(d.b[64:], line(api.Super{Pages: 25, Inodes: 8, Cores: 1}))
	corrupt(t, "both have", d.b, api.ErrSuper, 0)
}

// TestP11_4Shapes: formatted devices of each shape's edges.
func TestP11_4Shapes(t *testing.T) {
	for _, s := range []api.Super{{Pages: 24, Inodes: 8, Cores: 1}, {Pages: 24, Inodes: 96, Cores: 8}, {Pages: 44, Inodes: 256, Cores: 3}, {Pages: 1024, Inodes: 8, Cores: 1}, {Pages: 1024, Inodes: 256, Cores: 8}} {
		sh, e := layout.Fit(s)
		if e != api.OK {
			t.Fatal(e)
		}
		d := formatted(t, sh)
		want := api.State{Shape: sh, Nodes: []api.Node{dir(1)}, Free: []api.Span{{From: sh.Data, Count: sh.Pages - sh.Data}}}
		means(t, "formatted", d.b, want)
		d.log(1, api.KindDir, 1, []int{sh.Data}, add("last", sh.Inodes))
		d.log(sh.Inodes, api.KindFile, 1, []int{sh.Pages - 1}, sized(9))
		st, err := replay.Replay(d.b)
		if err != nil || len(st.Nodes) != 2 || st.Nodes[1].Ino != sh.Inodes || !slices.Equal(st.Free, []api.Span{{From: sh.Data + 1, Count: sh.Pages - sh.Data - 2}}) {
			t.Errorf("%v: %+v, %v", sh, st, err)
		}
		d.put(layout.SlotAt(sh.Inodes), 7)
		corrupt(t, "the last inode", d.b, api.ErrSlot, sh.Inodes)
	}
}

// TestP11_4NoPageFree: a device on which every page has an owner.
func TestP11_4NoPageFree(t *testing.T) {
	d := formatted(t, small)
	d.log(1, api.KindDir, 1, []int{14}, add("a", 2))
	d.log(2, api.KindFile, 1, []int{15}, write(0, 9, 5, 262144), write(100, 8, 16, 262144))
	st, err := replay.Replay(d.b)
	if err != nil || len(st.Free) != 0 || !slices.Equal(st.Nodes[1].Map, []api.Run{run(0, 5, 9), run(100, 16, 8)}) {
		t.Errorf("%+v, %v", st, err)
	}
}

// TestP11_4Drawn: drawn trees, amid any bytes; with journals that put back what was spoilt.
func TestP11_4Drawn(t *testing.T) {
	r := chance()
	for round := range 200 {
		d, want := drawn(t, r, []api.Shape{small, middling, large}[round%3], 30)
		means(t, "drawn", d.b, want)
		tree(t, want)
		d.pending(r, tableWords(r, d.sh, 1+r.Intn(8))...)
		means(t, "drawn, with a journal", d.b, want)
	}
}

// TestP11_4Spoilt: drawn trees in which one thing or some are changed: what the model says.
func TestP11_4Spoilt(t *testing.T) {
	r := chance()
	seen := map[api.Errno]int{}
	for round := range 250 {
		sh := []api.Shape{small, middling}[round%2]
		if round%40 == 0 {
			sh = large
		}
		d, _ := drawn(t, r, sh, 12)
		if r.Intn(5) == 0 {
			d.pending(r, tableWords(r, d.sh, 1+r.Intn(3))...)
		}
		for range 30 {
			s := spoilt(r, d)
			for range r.Intn(3) {
				s = spoilt(r, s)
			}
			e := asModel(t, "spoilt", s.b)
			seen[e]++
			if st, _ := replay.Replay(s.b); e == api.OK {
				tree(t, st)
			}
		}
	}
	for _, e := range []api.Errno{api.OK, api.ErrUndo, api.ErrSlot, api.ErrHeader, api.ErrEntry, api.ErrLog, api.ErrMeaning, api.ErrTwice, api.ErrRoot, api.ErrHang, api.ErrCount, api.ErrLost} {
		if seen[e] < 3 {
			t.Errorf("%v came %d times: %v", e, seen[e], seen)
		}
	}
}

// TestP11_4AnyBytes: bytes without sense, behind a superblock or not.
func TestP11_4AnyBytes(t *testing.T) {
	r := chance()
	for round := range 600 {
		b := make([]byte, r.Intn(30000))
		r.Read(b)
		corrupt(t, "any bytes", b, api.ErrSuper, 0)
		sh := []api.Shape{small, middling}[round%2]
		d := &disk{t, sh, make([]byte, 512*sh.Pages)}
		r.Read(d.b)
		d.super()
		asModel(t, "any bytes behind a superblock", d.b)
		d.put(512, 0)
		corrupt(t, "any bytes behind a journal", d.b, api.ErrSlot, 1)
		for ino := 1; ino <= sh.Inodes; ino++ {
			d.slot(ino, api.Slot{Kind: 2 - min(1, r.Intn(2)*(ino-1)), Links: 1, Head: 5 + r.Intn(sh.Pages), Tail: 512*(5+r.Intn(sh.Pages)) + 64*(2+r.Intn(7))})
		}
		asModel(t, "any logs", d.b)
	}
}

// tree: P11.5, in its words.
func tree(t *testing.T, st api.State) {
	t.Helper()
	in := make([]int, api.MaxPages)
	for _, n := range st.Nodes {
		for _, p := range n.Log {
			in[p]++
		}
		for _, r := range n.Map {
			for i := range r.Count {
				in[r.Page+i]++
			}
		}
	}
	for _, s := range st.Free {
		for i := range s.Count {
			in[s.From+i]++
		}
	}
	for p, n := range in {
		if want := once(st.Shape.Data <= p && p < st.Shape.Pages); n != want {
			t.Errorf("page %d is in %d lists, want %d: %+v", p, n, want, st)
		}
	}
	if e, at := modelJudge(st.Shape, st.Nodes); e != api.OK {
		t.Errorf("no tree: %v at %d: %+v", e, at, st)
	}
}

func once(b bool) int {
	if b {
		return 1
	}
	return 0
}

// TestP11_5Tight: spans of free pages are the longest ones, up to both ends of the data area.
func TestP11_5Tight(t *testing.T) {
	for _, c := range []struct {
		pages []int
		free  []api.Span
	}{
		{[]int{5, 7, 23}, []api.Span{{From: 6, Count: 1}, {From: 8, Count: 15}}},
		{[]int{22, 6}, []api.Span{{From: 5, Count: 1}, {From: 7, Count: 15}, {From: 23, Count: 1}}},
		{[]int{12, 13, 11}, []api.Span{{From: 5, Count: 6}, {From: 14, Count: 10}}},
	} {
		d := formatted(t, small)
		var es []api.Entry
		for i := range 7 * len(c.pages) {
			es = append(es, []api.Entry{add("x", 2), drop("x")}[i%2])
		}
		if len(es)%2 == 1 {
			es = es[:len(es)-1]
		}
		d.log(1, api.KindDir, 1, c.pages, es...)
		st, err := replay.Replay(d.b)
		if err != nil || !slices.Equal(st.Free, c.free) {
			t.Errorf("%v: %+v, %v", c.pages, st, err)
		}
		tree(t, st)
	}
}
