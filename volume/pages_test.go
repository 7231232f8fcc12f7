package volume_test

import (
	"slices"
	"strconv"
	"testing"

	"furrow/api"
	"furrow/ilog"
	"furrow/pmem"
	"furrow/volume"
)

// logOf: the entries of an inode's log, without their Seqs.
func logOf(t *testing.T, d *pmem.Device, v *volume.Volume, ino int) []api.Entry {
	t.Helper()
	n, _ := v.Node(ino)
	list, _, e := ilog.Walk(d.View(), v.State().Shape, ino, slotOf(n))
	if e != api.OK {
		t.Fatalf("Walk of %+v: %v", n, e)
	}
	for i := range list {
		if list[i].Seq != uint64(i+1) {
			t.Errorf("entry %d of %d has the Seq %d", i, ino, list[i].Seq)
		}
		list[i].Seq = 0
	}
	return list
}

func wrote(off, count, page, size int) api.Entry {
	return api.Entry{Kind: api.EntWrite, Off: off, Count: count, Page: page, Size: size}
}

// upTo: the numbers from one up to another, which isn't one of them.
func upTo(from, to int) []int {
	var list []int
	for i := from; i < to; i++ {
		list = append(list, i)
	}
	return list
}

// with: a volume of 60 pages with the file 2, without bytes. Core 0 has the pages 7 to 23, core 1 those up to 41, core 2 the rest; the root's log is page 24.
func with(t *testing.T) (*pmem.Device, *volume.Volume) {
	t.Helper()
	d, v := fresh(t, middling)
	does(t, v, api.OK, says(1, add("a", 2), add("b", 3)), newFile(2), newFile(3))
	return d, v
}

// TestP15_8Pieces: cut where an Off or a page doesn't go on, and at 16.
func TestP15_8Pieces(t *testing.T) {
	for _, c := range []struct {
		offs []int
		want []api.Entry
	}{
		{[]int{0}, []api.Entry{wrote(0, 1, 42, 9000)}},
		{[]int{5, 6, 7}, []api.Entry{wrote(5, 3, 42, 9000)}},
		{[]int{0, 1, 3, 4, 6}, []api.Entry{wrote(0, 2, 42, 9000), wrote(3, 2, 44, 9000), wrote(6, 1, 46, 9000)}},
		{upTo(0, 15), []api.Entry{wrote(0, 15, 42, 9000)}},
		{upTo(0, 16), []api.Entry{wrote(0, 16, 42, 9000)}},
		{upTo(0, 17), []api.Entry{wrote(0, 16, 42, 9000), wrote(16, 1, 58, 9000)}},
	} {
		d, v := with(t)
		does(t, v, api.OK, writes(2, 9000, fills(1, c.offs...)...))
		if l := logOf(t, d, v, 2); !slices.Equal(l, c.want) {
			t.Errorf("%v: %v; want %v", c.offs, l, c.want)
		}
	}
}

// TestP15_8Areas: pages of the inode's core, then of the next ones; a piece goes on over a border where the page does, and ends where it doesn't.
func TestP15_8Areas(t *testing.T) {
	d, v := with(t)
	does(t, v, api.OK, writes(3, 512*34, fills(1, upTo(0, 34)...)...)) // core 0: 7 to 23, then core 1 without page 24
	want := []api.Entry{wrote(0, 16, 7, 512*34), wrote(16, 1, 23, 512*34), wrote(17, 16, 25, 512*34), wrote(33, 1, 41, 512*34)}
	if l := logOf(t, d, v, 3); !slices.Equal(l, want) {
		t.Errorf("%v; want %v", l, want)
	}
	if n, _ := v.Node(3); !slices.Equal(n.Log, []int{42}) {
		t.Errorf("%+v", n)
	}
	d, v = with(t)
	does(t, v, api.OK, writes(2, 512*20, fills(1, upTo(0, 20)...)...)) // core 2: 42 to 59, then core 0: 7 and 8
	want = []api.Entry{wrote(0, 16, 42, 512*20), wrote(16, 2, 58, 512*20), wrote(18, 2, 7, 512*20)}
	if l := logOf(t, d, v, 2); !slices.Equal(l, want) {
		t.Errorf("%v; want %v", l, want)
	}
	if n, _ := v.Node(2); !slices.Equal(n.Log, []int{9}) {
		t.Errorf("%+v", n)
	}
}

// TestP15_8Order: edit by edit, the pages of the Fills ahead of those of the log; the edit's own entries ahead of the Writes.
func TestP15_8Order(t *testing.T) {
	for _, turned := range []bool{false, true} {
		d, v := fresh(t, small)
		does(t, v, api.OK, says(1, add("a", 2), add("b", 3)), newFile(2), newFile(3))
		edits := []api.Edit{
			{Ino: 2, Entries: []api.Entry{size(9), size(3)}, Fills: fills(1, 0, 2), Size: 1500},
			{Ino: 3, Entries: []api.Entry{size(1), size(2), size(3), size(4), size(5), size(6), size(7)}, Fills: fills(7, 1), Size: 700},
		}
		first, then := []int{6, 7, 8}, []int{9, 10, 11}
		if turned {
			slices.Reverse(edits)
			then, first = []int{6, 7, 8}, []int{9, 10, 11}
		}
		does(t, v, api.OK, edits...)
		two, three := nodeOf(v.State(), 2), nodeOf(v.State(), 3)
		if !slices.Equal(two.Log, first[2:]) || !slices.Equal(two.Map, []api.Run{{Off: 0, Page: first[0], Count: 1}, {Off: 2, Page: first[1], Count: 1}}) {
			t.Errorf("%v: %+v", turned, two)
		}
		if !slices.Equal(three.Log, then[1:]) || !slices.Equal(three.Map, []api.Run{{Off: 1, Page: then[0], Count: 1}}) {
			t.Errorf("%v: %+v", turned, three)
		}
		if l := logOf(t, d, v, 2); !slices.Equal(l, []api.Entry{size(9), size(3), wrote(0, 1, first[0], 1500), wrote(2, 1, first[1], 1500)}) {
			t.Errorf("%v: %v", turned, l)
		}
		holds(t, "P15.8", d, v)
	}
}

// full: a volume of 24 pages with the files 2, 3 and 4, of which so many pages are free; 2 has a page, 4 many, their logs one entry each.
func full(t *testing.T, free int) (*pmem.Device, *volume.Volume) {
	t.Helper()
	d, v := fresh(t, small)
	does(t, v, api.OK, says(1, add("a", 2), add("b", 3), add("c", 4)), newFile(2), newFile(3), newFile(4))
	does(t, v, api.OK, writes(2, 500, fills(1, 0)...))
	does(t, v, api.OK, writes(4, 9000, fills(1, upTo(0, 15-free)...)...))
	if v.FreePages() != free {
		t.Fatalf("%d pages are free", v.FreePages())
	}
	return d, v
}

// TestP15_8NoSpace: just as many pages as are needed are enough; what the edits let go doesn't count; what one edit takes the next one hasn't.
func TestP15_8NoSpace(t *testing.T) {
	seven := []api.Entry{size(1), size(2), size(3), size(4), size(5), size(6), size(7)}
	for _, c := range []struct {
		need  int
		edits []api.Edit
	}{
		{0, []api.Edit{says(2, seven[:6]...)}}, {1, []api.Edit{says(2, seven...)}}, {1, []api.Edit{says(3, seven...)}}, {2, []api.Edit{says(3, append(seven, seven[0])...)}},
		{1, []api.Edit{writes(2, 5, fills(1, 0)...)}}, {3, []api.Edit{writes(2, 9000, fills(1, 0, 1, 2)...)}}, {2, []api.Edit{writes(3, 5, fills(1, 0)...)}},
		{3, []api.Edit{writes(3, 5, fills(1, 0)...), writes(2, 5, fills(1, 0)...)}}, {3, []api.Edit{writes(2, 5, fills(1, 0)...), writes(3, 5, fills(1, 0)...)}}, {2, []api.Edit{says(2, seven...), says(3, seven...)}},
		{1, []api.Edit{says(4, size(0)), says(3, size(5))}}, {2, []api.Edit{says(4, size(0)), writes(3, 5, fills(1, 0)...)}}, // size 0 lets all pages go
		{1, []api.Edit{says(1, drop("a")), frees(2), says(3, size(0))}}, {0, []api.Edit{says(1, drop("a")), frees(2)}},
		{1, []api.Edit{says(1, add("n", 5)), {Ino: 5, Kind: api.KindFile, Links: 1, Entries: []api.Entry{size(1)}}}}, {0, []api.Edit{says(1, add("n", 5)), newFile(5)}},
	} {
		if c.need > 0 {
			d, v := full(t, c.need-1)
			refuses(t, d, v, api.ErrNoSpace, c.edits...)
			tells(t, d, v)
		}
		d, v := full(t, c.need)
		does(t, v, api.OK, c.edits...)
		holds(t, text(c.edits), d, v)
	}
	d, v := full(t, 0)
	refuses(t, d, v, api.ErrEdit, writes(2, 0, fills(1, 0)...)) // what can't be done is told first
	refuses(t, d, v, api.ErrNoSpace, writes(2, 262144, fills(1, upTo(0, 512)...)...))
}

// TestP15_9Commits: which of the two commits it is, by the steps.
func TestP15_9Commits(t *testing.T) {
	entry := func(n, pages int) int { return 9*n + 3*pages + 1 }
	journal := func(n, lines int) int { return 3*n + (n+3)/4 + lines + 10 }
	for _, c := range []struct {
		edits []api.Edit
		steps int
	}{
		{[]api.Edit{{Ino: 2}}, 0}, {[]api.Edit{{Ino: 2, Links: 2}}, 0}, {[]api.Edit{{Ino: 1}, {Ino: 2}, {Ino: 3}, {Ino: 4}}, 0},
		{[]api.Edit{says(2, size(5))}, entry(1, 0) + 3}, {[]api.Edit{says(4, size(5))}, entry(1, 1) + 6}, {[]api.Edit{{Ino: 4, Links: 1, Entries: []api.Entry{size(5)}}}, entry(1, 1) + 6},
		{[]api.Edit{{Ino: 1}, says(2, size(5)), {Ino: 3, Links: 1}}, entry(1, 0) + 3},
		{[]api.Edit{writes(2, 600, fills(1, 0, 1)...)}, 144 + entry(1, 0) + 3},
		{[]api.Edit{says(2, size(5)), says(4, size(5))}, entry(1, 0) + entry(1, 1) + journal(3, 2)},
		{[]api.Edit{says(1, drop("a")), {Ino: 2, Links: 1}}, entry(1, 0) + journal(2, 2)},
		{[]api.Edit{says(1, add("n", 6)), newFile(6)}, entry(1, 0) + journal(3, 2)},
		{[]api.Edit{newFile(6), says(1, add("n", 6))}, entry(1, 0) + journal(3, 2)},
		{[]api.Edit{says(3, drop("e")), frees(4)}, entry(1, 0) + journal(2, 2)},
		{[]api.Edit{says(1, add("n", 2)), {Ino: 2, Links: 3, Entries: []api.Entry{size(5)}}}, 2*entry(1, 0) + journal(3, 2)},
		{[]api.Edit{says(1, drop("a"), add("c", 2))}, entry(2, 0) + 3},
	} {
		d, v := furnished(t)
		steps, image := d.Steps(), d.View()
		does(t, v, api.OK, c.edits...)
		if d.Steps()-steps != c.steps {
			t.Errorf("%s: %d steps; want %d", text(c.edits), d.Steps()-steps, c.steps)
		}
		holds(t, text(c.edits), d, v)
		cutEverywhere(t, "P15.9", image, c.edits)
	}
}

// TestP15_10LetGo: what is overwritten, cut or freed is free behind it, and nothing else.
func TestP15_10LetGo(t *testing.T) {
	d, v := fresh(t, small)
	does(t, v, api.OK, says(1, add("a", 2), add("b", 3)), newFile(2), newFile(3)) // the root's log: 5
	does(t, v, api.OK, writes(2, 4*512, fills(1, 0, 1, 2, 3)...))                 // 6 to 9, its log: 10
	does(t, v, api.OK, writes(3, 512, fills(1, 0)...))                            // 11, its log: 12
	isFree(t, v, 13, 11)
	does(t, v, api.OK, writes(2, 4*512, fills(1, 1, 2)...)) // 13, 14 for 7, 8
	isFree(t, v, 7, 2, 15, 9)
	does(t, v, api.OK, says(2, size(1000)), says(3, size(0))) // the Offs 2 and 3: 14, 9; and 11
	isFree(t, v, 7, 3, 11, 1, 14, 10)
	does(t, v, api.OK, says(2, size(2048))) // holes
	isFree(t, v, 7, 3, 11, 1, 14, 10)
	does(t, v, api.OK, writes(2, 512, fills(1, 0)...)) // 7 for 6; and what was cut: 13
	isFree(t, v, 6, 1, 8, 2, 11, 1, 13, 11)
	does(t, v, api.OK, says(1, drop("a")), frees(2)) // 7, and the log
	isFree(t, v, 6, 6, 13, 11)
	does(t, v, api.OK, frees(3), says(1, drop("b")))
	isFree(t, v, 6, 18)
	tells(t, d, v)
}

// long: a volume of 24 pages with the files 2 and 3, whose logs have 13 entries each, and of which so many pages are free behind that.
func long(t *testing.T, free int) (*pmem.Device, *volume.Volume) {
	t.Helper()
	d, v := fresh(t, small)
	does(t, v, api.OK, says(1, add("a", 2), add("b", 3), add("c", 4)), newFile(2), newFile(3), newFile(4))
	for i := range 13 {
		does(t, v, api.OK, says(2, size(i)), says(3, size(2*i)))
	}
	does(t, v, api.OK, writes(4, 9000, fills(1, upTo(0, 13-free)...)...))
	if v.FreePages() != free {
		t.Fatalf("%d pages are free", v.FreePages())
	}
	return d, v
}

// TestP15_11Due: at the fourteenth entry, both logs in one transaction; each into what is free then.
func TestP15_11Due(t *testing.T) {
	d, v := long(t, 6)
	does(t, v, api.OK, says(3, size(50)), says(2, size(60)))
	isNode(t, v, api.Node{Ino: 3, Kind: api.KindFile, Links: 1, Size: 50, Head: 18, Tail: 18*512 + 128, Log: []int{18}, Entries: 1})
	isNode(t, v, api.Node{Ino: 2, Kind: api.KindFile, Links: 1, Size: 60, Head: 7, Tail: 7*512 + 128, Log: []int{7}, Entries: 1})
	isFree(t, v, 6, 1, 8, 2, 19, 5)
	holds(t, "P15.11", d, v)
}

// TestP15_11Full: without a page for it the log stays as it is, and is collected as soon as there is one and the inode is edited, also by an edit that says nothing.
func TestP15_11Full(t *testing.T) {
	d, v := long(t, 0)
	steps := d.Steps()
	does(t, v, api.OK, says(2, size(60)))
	if n, _ := v.Node(2); n.Entries != 14 || len(n.Log) != 2 || d.Steps()-steps != 10+3 {
		t.Errorf("%+v, %d steps", n, d.Steps()-steps)
	}
	still(t, "P15.11", d, func() { does(t, v, api.OK, api.Edit{Ino: 2}) })
	does(t, v, api.OK, says(4, size(0))) // frees pages; but 2 isn't edited
	if n, _ := v.Node(2); n.Entries != 14 {
		t.Errorf("%+v", n)
	}
	steps = d.Steps()
	does(t, v, api.OK, api.Edit{Ino: 2})
	if n, _ := v.Node(2); n.Entries != 1 || n.Size != 60 || d.Steps()-steps != 13+18 {
		t.Errorf("%+v, %d steps", n, d.Steps()-steps)
	}
	holds(t, "P15.11", d, v)
}

// TestP15_11Nothing: a log that says nothing any more needs no page, and all of its own are free.
func TestP15_11Nothing(t *testing.T) {
	d, v := long(t, 0)
	does(t, v, api.OK, says(2, size(0)))
	isNode(t, v, api.Node{Ino: 2, Kind: api.KindFile, Links: 1})
	if v.FreePages() != 2 {
		t.Errorf("%d pages are free", v.FreePages())
	}
	does(t, v, api.OK, says(3, size(1))) // into one of them
	if n, _ := v.Node(3); n.Entries != 1 || v.FreePages() != 3 {
		t.Errorf("%+v, %d pages are free", n, v.FreePages())
	}
	holds(t, "P15.11", d, v)
}

// TestP15_11LetGoFirst: what the edits let go is there for the collection.
func TestP15_11LetGoFirst(t *testing.T) {
	d, v := long(t, 0)
	does(t, v, api.OK, says(2, size(60)), says(4, size(0)))
	if n, _ := v.Node(2); n.Entries != 1 || len(n.Log) != 1 {
		t.Errorf("%+v", n)
	}
	holds(t, "P15.11", d, v)
}

// TestP15_11Several: a directory's log of several pages, by names that come and go.
func TestP15_11Several(t *testing.T) {
	d, m := formatted(t, middling), formatted(t, middling)
	v := mounts(t, d)
	beside(t, "P15.11", d, m, v, []api.Edit{says(1, add("f", 2)), newFile(2)})
	for i := range 90 {
		n, _ := v.Node(2)
		edits := []api.Edit{says(1, add("n"+strconv.Itoa(i), 2)), {Ino: 2, Links: n.Links + 1}}
		if i%3 == 2 {
			edits = []api.Edit{says(1, drop("n"+strconv.Itoa(i-2)), drop("n"+strconv.Itoa(i-1))), {Ino: 2, Links: n.Links - 2}}
		}
		if i%7 == 6 {
			edits = []api.Edit{says(1, drop("f"), add("f", 2))}
		}
		beside(t, "P15.11", d, m, v, edits)
	}
}

// TestP15_11Freed: an inode that is freed has no log to collect.
func TestP15_11Freed(t *testing.T) {
	d, v := long(t, 0)
	does(t, v, api.OK, says(2, size(60)))
	does(t, v, api.OK, says(1, drop("a")), frees(2))
	if _, e := v.Node(2); e != api.ErrNoFile {
		t.Errorf("Node(2): %v", e)
	}
	holds(t, "P15.11", d, v)
}
