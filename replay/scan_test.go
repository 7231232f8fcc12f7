package replay_test

import (
	"testing"

	"furrow/api"
	"furrow/layout"
)

// TestP11_1Inode: shapes that don't fit and numbers that no inode has, whatever else is wrong.
func TestP11_1Inode(t *testing.T) {
	d := formatted(t, small)
	d.put(2048, 7)
	unscanned(t, "the slot is broken", d.b, small, 1, api.ErrSlot)
	for _, ino := range append([]int{0, 9, 10, 256, 257}, wild...) {
		unscanned(t, "no inode", d.b, small, ino, api.ErrInode)
	}
	for _, sh := range noShapes {
		unscanned(t, "no shape", d.b, sh, 1, api.ErrInode)
		unscanned(t, "no shape, no bytes", nil, sh, 1, api.ErrInode)
	}
	for _, sh := range []api.Shape{middling, large, {Pages: 25, Inodes: 8, Cores: 1, Data: 5}} {
		unscanned(t, "another length", d.b, sh, 1, api.ErrInode)
	}
	for _, n := range []int{0, 1, 2048, 2072, 12287} {
		unscanned(t, "short", d.b[:n], small, 1, api.ErrInode)
	}
	unscanned(t, "long", append(d.b, 0), small, 1, api.ErrInode)
}

// TestP11_1AnyShape: the shape is what is handed in, not what the superblock says.
func TestP11_1AnyShape(t *testing.T) {
	d := formatted(t, small)
	clear(d.b[:128])
	scans(t, "no superblock", d, dir(1))
	d.sh = api.Shape{Pages: 24, Inodes: 16, Cores: 8, Data: 6}
	scans(t, "more inodes", d, api.Node{Ino: 16})
	d.log(16, api.KindFile, 1, []int{5}, sized(3))
	unscanned(t, "page 5 is no data page there", d.b, d.sh, 16, api.ErrSlot)
	d.log(16, api.KindFile, 1, []int{6}, sized(3))
	n := api.Node{Ino: 16, Kind: api.KindFile, Links: 1, Size: 3, Head: 6, Tail: 6*512 + 128, Log: []int{6}, Entries: 1}
	scans(t, "page 6", d, n)
}

// TestP11_1Journal: what the journal has isn't looked at.
func TestP11_1Journal(t *testing.T) {
	d := four(t)
	d.pending(chance(), 2048, 2112)
	d.slot(1, api.Slot{Kind: api.KindFile, Links: 7})
	d.slot(2, api.Slot{})
	scans(t, "a journal that counts", d, api.Node{Ino: 2})
	d.put(512, 7)
	scans(t, "a broken journal", d, api.Node{Ino: 2})
}

// TestP11_1Slots: each slot that OpenSlot refuses, and those that it takes.
func TestP11_1Slots(t *testing.T) {
	for ino := 1; ino <= 8; ino++ {
		at := layout.SlotAt(ino)
		d := scribbled(t, chance(), small)
		d.slot(ino, api.Slot{})
		scans(t, "free", d, api.Node{Ino: ino})
		d.put(at, 0)
		scans(t, "free, never stored", d, api.Node{Ino: ino})
		d.put(at, 7)
		unscanned(t, "meta", d.b, small, ino, api.ErrSlot)
		for _, meta := range []int{3 + 256, 256, api.KindFile, api.KindFile + 256*101, api.KindDir, api.KindDir + 256*2} {
			d.hold(at, meta)
			unscanned(t, "meta", d.b, small, ino, api.ErrSlot)
		}
		d.slot(ino, api.Slot{Kind: api.KindFile, Links: 100})
		scans(t, "an empty log", d, file(ino, 100))
		d.put(at+16, 7)
		unscanned(t, "tail", d.b, small, ino, api.ErrSlot)
		d.slot(ino, api.Slot{Kind: api.KindFile, Links: 100, Head: 9, Tail: 9*512 + 64})
		unscanned(t, "tail of no entry", d.b, small, ino, api.ErrSlot)
		d.log(ino, api.KindDir, 1, []int{9}, add("a", 3))
		n := dir(ino, to(3)...)
		n.Head, n.Tail, n.Log, n.Entries = 9, 9*512+128, []int{9}, 1
		scans(t, "an entry", d, n)
		d.put(at+8, 7)
		unscanned(t, "head", d.b, small, ino, api.ErrSlot)
	}
}

// TestP11_1Walk: the errors of the walk, in a log of two pages.
func TestP11_1Walk(t *testing.T) {
	two := func(spoil func(d *disk)) []byte {
		d := scribbled(t, chance(), small)
		var es []api.Entry
		for i := range 9 {
			es = append(es, sized(100*i))
		}
		d.log(3, api.KindFile, 1, []int{23, 5}, es...)
		n := file(3, 1)
		n.Size, n.Head, n.Tail, n.Log, n.Entries = 800, 23, 5*512+192, []int{23, 5}, 9
		scans(t, "whole", d, n)
		spoil(d)
		return d.b
	}
	for what, c := range map[string]struct {
		e     api.Errno
		spoil func(d *disk)
	}{
		"a head outside":        {api.ErrSlot, func(d *disk) { d.hold(layout.SlotAt(3)+8, 24) }},
		"a tail outside":        {api.ErrSlot, func(d *disk) { d.hold(layout.SlotAt(3)+16, 24*512+128) }},
		"another owner":         {api.ErrHeader, func(d *disk) { d.hold(5*512+8, 4) }},
		"no owner":              {api.ErrHeader, func(d *disk) { d.put(23*512+8, 5) }},
		"a next page outside":   {api.ErrHeader, func(d *disk) { d.hold(23*512, 4) }},
		"no next page":          {api.ErrLog, func(d *disk) { d.hold(23*512, 0) }},
		"a ring":                {api.ErrLog, func(d *disk) { d.hold(23*512, 23) }},
		"a bit":                 {api.ErrEntry, func(d *disk) { d.b[23*512+64+30] ^= 1 }},
		"a page outside":        {api.ErrEntry, func(d *disk) { e := write(0, 2, 23, 9); e.Seq = 9; d.line(5, 2, e) }},
		"an entry's number":     {api.ErrLog, func(d *disk) { e := sized(5); e.Seq = 4; d.line(5, 1, e) }},
		"an Add":                {api.ErrMeaning, func(d *disk) { e := add("a", 2); e.Seq = 9; d.line(5, 2, e) }},
		"an Add, then a bit":    {api.ErrEntry, func(d *disk) { e := add("a", 2); e.Seq = 1; d.line(23, 1, e); d.b[5*512+150] ^= 1 }},
		"an Add, then an owner": {api.ErrHeader, func(d *disk) { e := add("a", 2); e.Seq = 1; d.line(23, 1, e); d.hold(5*512+8, 4) }},
		"an Add, then a ring":   {api.ErrLog, func(d *disk) { e := add("a", 2); e.Seq = 1; d.line(23, 1, e); d.hold(23*512, 23) }},
	} {
		b := two(c.spoil)
		unscanned(t, what, b, small, 3, c.e)
		corrupt(t, what, b, c.e, 3)
	}
}

// TestP11_1Meaning: logs that read well and mean nothing, and a directory's log that does.
func TestP11_1Meaning(t *testing.T) {
	for _, c := range []struct {
		kind    int
		entries []api.Entry
	}{
		{api.KindDir, []api.Entry{sized(0)}},
		{api.KindDir, []api.Entry{write(0, 1, 5, 5)}},
		{api.KindDir, []api.Entry{drop("a")}},
		{api.KindDir, []api.Entry{add("a", 2), add("a", 2)}},
		{api.KindDir, []api.Entry{add("a", 2), drop("a"), drop("a")}},
		{api.KindFile, []api.Entry{add("a", 2)}},
		{api.KindFile, []api.Entry{drop("a")}},
	} {
		d := formatted(t, small)
		d.log(8, c.kind, 1, []int{7}, c.entries...)
		unscanned(t, "no meaning", d.b, small, 8, api.ErrMeaning)
		corrupt(t, "no meaning", d.b, api.ErrMeaning, 8)
	}
	d := formatted(t, small)
	d.log(8, api.KindDir, 1, []int{7}, add("b", 2), add("a", 8), drop("b"), add("b", 5))
	n := dir(8, to(8, 5)...)
	n.Head, n.Tail, n.Log, n.Entries = 7, 7*512+64*5, []int{7}, 4
	scans(t, "a directory", d, n)
}

// TestP11_1Drawn: the inodes of drawn trees, one by one; the free ones too.
func TestP11_1Drawn(t *testing.T) {
	r := chance()
	for round := range 60 {
		d, want := drawn(t, r, []api.Shape{small, middling, large}[round%3], 24)
		nodes := map[int]api.Node{}
		for _, n := range want.Nodes {
			nodes[n.Ino] = n
		}
		for ino := 1; ino <= d.sh.Inodes; ino++ {
			n, in := nodes[ino]
			if !in {
				n = api.Node{Ino: ino}
			}
			scans(t, "drawn", d, n)
		}
	}
}
