package gc_test

import (
	"slices"
	"strconv"
	"testing"

	"furrow/api"
	"furrow/codec"
	"furrow/gc"
	"furrow/layout"
)

// ask: all that Collect is given: the device as its bytes.
type ask struct {
	b     []byte
	sh    api.Shape
	n     api.Node
	pages []int
}

// fair: what isn't refused: example 10's directory, or one like it in another shape.
func fair(t *testing.T, sh api.Shape) *ask {
	t.Helper()
	n := dir(15, 32)
	p := sh.Data
	n.Head, n.Log, n.Tail = p, []int{p, p + 1, p + 2}, (p+2)*512+320
	return &ask{plain(t, sh).View(), sh, n, []int{p + 8, p + 4, p + 6}}
}

// fault: something that makes a fair ask refused.
type fault struct {
	what string
	do   func(a *ask)
	want api.Errno
}

func journaled(b []byte, list ...api.Undo) {
	page, e := layout.PackUndo(list)
	if e != api.OK {
		panic("a test's records aren't good")
	}
	copy(b[512:], page)
}

// faults: each kind of refusal in the order of P10.3, by several causes.
func faults() []fault {
	list := []fault{
		{"pages of the shape", func(a *ask) { a.sh.Pages++ }, api.ErrShape},
		{"too few pages of the shape", func(a *ask) { a.sh.Pages-- }, api.ErrShape},
		{"inodes of the shape", func(a *ask) { a.sh.Inodes++ }, api.ErrShape},
		{"more inodes, the same data area", func(a *ask) { a.sh.Inodes += 8 }, api.ErrShape},
		{"no core", func(a *ask) { a.sh.Cores = 0 }, api.ErrShape},
		{"cores", func(a *ask) { a.sh.Cores = 9 }, api.ErrShape},
		{"the data area's beginning", func(a *ask) { a.sh.Data++ }, api.ErrShape},
		{"no shape", func(a *ask) { a.sh = api.Shape{} }, api.ErrShape},
		{"a greater device", func(a *ask) { a.b = append(a.b, make([]byte, 512)...) }, api.ErrShape},
		{"a smaller device", func(a *ask) { a.b = a.b[:len(a.b)-512] }, api.ErrShape},

		{"inode 0", func(a *ask) { a.n.Ino = 0 }, api.ErrSlot},
		{"an inode behind the last", func(a *ask) { a.n.Ino = a.sh.Inodes + 1 }, api.ErrSlot},
		{"inode 257", func(a *ask) { a.n.Ino = 257 }, api.ErrSlot},
		{"a free slot", func(a *ask) { a.n.Kind = api.KindFree }, api.ErrSlot},
		{"an empty slot", func(a *ask) { a.n.Kind, a.n.Links, a.n.Head, a.n.Tail = 0, 0, 0, 0 }, api.ErrSlot},
		{"no kind", func(a *ask) { a.n.Kind = 3 }, api.ErrSlot},
		{"no links", func(a *ask) { a.n.Links = 0 }, api.ErrSlot},
		{"a directory's links", func(a *ask) { a.n.Kind, a.n.Links = api.KindDir, 2 }, api.ErrSlot},
		{"an empty log", func(a *ask) { a.n.Head, a.n.Tail = 0, 0 }, api.ErrSlot},
		{"an empty log with a head", func(a *ask) { a.n.Tail = 0 }, api.ErrSlot},
		{"no head", func(a *ask) { a.n.Head = 0 }, api.ErrSlot},
		{"a head in the table", func(a *ask) { a.n.Head = a.sh.Data - 1 }, api.ErrSlot},
		{"a head behind the end", func(a *ask) { a.n.Head = a.sh.Pages }, api.ErrSlot},
		{"a tail in the table", func(a *ask) { a.n.Tail = a.sh.Data * 512 }, api.ErrSlot},
		{"a tail behind the end", func(a *ask) { a.n.Tail = a.sh.Pages*512 + 128 }, api.ErrSlot},
		{"a tail behind a header", func(a *ask) { a.n.Tail = a.sh.Data*512 + 64 }, api.ErrSlot},
		{"a tail amid a line", func(a *ask) { a.n.Tail++ }, api.ErrSlot},

		{"a directory with a size", func(a *ask) { a.n.Size = 1 }, api.ErrMeaning},
		{"a directory with a run", func(a *ask) { a.n.Map = runs(0, 20, 1) }, api.ErrMeaning},
		{"a file with names", func(a *ask) { a.n.Kind = api.KindFile }, api.ErrMeaning},
		{"names that fall", func(a *ask) { slices.Reverse(a.n.Names) }, api.ErrMeaning},
		{"a name twice", func(a *ask) { a.n.Names[7] = a.n.Names[6] }, api.ErrMeaning},
		{"no name", func(a *ask) { a.n.Names[0].Name = "" }, api.ErrMeaning},
		{"a name for the root", func(a *ask) { a.n.Names[14].Ino = 1 }, api.ErrMeaning},
		{"a name for inode 257", func(a *ask) { a.n.Names[14].Ino = 257 }, api.ErrMeaning},

		{"no pages", func(a *ask) { a.pages = nil }, api.ErrPages},
		{"a page too few", func(a *ask) { a.pages = a.pages[:2] }, api.ErrPages},
		{"a page too many", func(a *ask) { a.pages = append(a.pages, a.sh.Data+9) }, api.ErrPages},
		{"a page of the log", func(a *ask) { a.pages[1] = a.n.Log[1] }, api.ErrPages},
		{"the log's head", func(a *ask) { a.pages[0] = a.n.Log[0] }, api.ErrPages},
		{"the log's last page", func(a *ask) { a.pages[2] = a.n.Log[2] }, api.ErrPages},
		{"the head, where no log is told", func(a *ask) { a.pages[0], a.n.Log = a.sh.Data, nil }, api.ErrPages},
		{"the last page, where no log is told", func(a *ask) { a.pages[2], a.n.Log = a.sh.Data+2, nil }, api.ErrPages},
		{"the last page, which is full, where no log is told", func(a *ask) { a.n.Tail, a.pages[0], a.n.Log = (a.sh.Data+3)*512, a.sh.Data+2, nil }, api.ErrPages},
		{"a page that a log tells which isn't its own", func(a *ask) { a.n.Log = append(a.n.Log, a.pages[1]) }, api.ErrPages},
		{"the table's last page", func(a *ask) { a.pages[0] = a.sh.Data - 1 }, api.ErrPages},
		{"the page behind the end", func(a *ask) { a.pages[2] = a.sh.Pages }, api.ErrPages},
		{"page 0", func(a *ask) { a.pages[1] = 0 }, api.ErrPages},
		{"the first page twice", func(a *ask) { a.pages[2] = a.pages[0] }, api.ErrPages},
		{"a page twice", func(a *ask) { a.pages[2] = a.pages[1] }, api.ErrPages},

		{"a name for an inode behind the last", func(a *ask) { a.n.Names[14].Ino = a.sh.Inodes + 1 }, api.ErrEntry},
		{"a name for inode 256", func(a *ask) { a.n.Names[0].Ino = 256 }, api.ErrEntry},

		{"a journal with a record", func(a *ask) { journaled(a.b, api.Undo{At: 2048, Old: 7}) }, api.ErrUndo},
		{"a journal with 8 records", func(a *ask) {
			journaled(a.b, []api.Undo{{At: 2048}, {At: 2056}, {At: 2064}, {At: 2112}, {At: 2120}, {At: 2128}, {At: 2176}, {At: 2184}}...)
		}, api.ErrUndo},
		{"a journal that isn't sealed", func(a *ask) { put(a.b, 512, 77) }, api.ErrUndo},
		{"a journal of 9 records", func(a *ask) { put(a.b, 512, codec.Seal(512, 9)) }, api.ErrUndo},
		{"a journal with a wrong sum", func(a *ask) { put(a.b, 512, codec.Seal(512, 1)) }, api.ErrUndo},
	}
	for _, w := range wild {
		list = append(list,
			fault{"a wild shape", func(a *ask) { a.sh.Pages = w }, api.ErrShape},
			fault{"a wild shape", func(a *ask) { a.sh.Inodes = w }, api.ErrShape},
			fault{"a wild shape", func(a *ask) { a.sh.Data = w }, api.ErrShape},
			fault{"a wild inode", func(a *ask) { a.n.Ino = w }, api.ErrSlot},
			fault{"a wild kind", func(a *ask) { a.n.Kind = w }, api.ErrSlot},
			fault{"wild links", func(a *ask) { a.n.Links = w }, api.ErrSlot},
			fault{"a wild head", func(a *ask) { a.n.Head = w }, api.ErrSlot},
			fault{"a wild tail", func(a *ask) { a.n.Tail = w }, api.ErrSlot},
			fault{"a wild size", func(a *ask) { a.n.Size = w }, api.ErrMeaning},
			fault{"a wild name", func(a *ask) { a.n.Names[3].Ino = w }, api.ErrMeaning},
			fault{"a wild page", func(a *ask) { a.pages[1] = w }, api.ErrPages},
		)
	}
	return list
}

// TestP10_3Each: each fault alone, and what is refused isn't without it.
func TestP10_3Each(t *testing.T) {
	for _, sh := range []api.Shape{small, middling, large} {
		a := fair(t, sh)
		collects(t, "no fault", load(t, a.b), a.sh, a.n, a.pages)
		for _, f := range faults() {
			a := fair(t, sh)
			f.do(a)
			if sh == large && (f.want == api.ErrEntry || len(a.b) > 1024*512) { // no inode and no page is behind the last one there
				continue
			}
			refused(t, f.what, load(t, a.b), a.sh, a.n, a.pages, f.want)
		}
	}
}

// TestP10_3InOrder: of two faults of unlike kinds the first one's error is told.
func TestP10_3InOrder(t *testing.T) {
	rank := []api.Errno{api.ErrShape, api.ErrSlot, api.ErrMeaning, api.ErrPages, api.ErrEntry, api.ErrUndo}
	list := faults()
	for _, f := range list {
		for _, g := range list {
			if slices.Index(rank, f.want) >= slices.Index(rank, g.want) {
				continue
			}
			a := fair(t, small)
			g.do(a)
			f.do(a)
			refused(t, f.what+" and "+g.what, load(t, a.b), a.sh, a.n, a.pages, f.want)
		}
	}
}

// TestP10_3Files: what is refused of a file's runs, and the order of it.
func TestP10_3Files(t *testing.T) {
	in := func(sh api.Shape, n api.Node) api.Node {
		n.Head, n.Log, n.Tail = sh.Data, []int{sh.Data}, (sh.Data+1)*512
		return n
	}
	for _, c := range []struct {
		what string
		sh   api.Shape
		n    api.Node
		want api.Errno
	}{
		{"the first data page", small, file(512, 0, 5, 1), api.OK},
		{"the last data page", small, file(512, 0, 23, 1), api.OK},
		{"all data pages", small, file(512*19, 0, 5, 19), api.OK},
		{"a page behind the end", small, file(512, 0, 24, 1), api.ErrEntry},
		{"a run over the end", small, file(1024, 0, 23, 2), api.ErrEntry},
		{"a run over the end in its second piece", small, file(512*20, 0, 5, 20), api.ErrEntry},
		{"a later run behind the end", small, file(1024, 0, 9, 1, 1, 24, 1), api.ErrEntry},
		{"the largest device's last page", small, file(512, 0, 1023, 1), api.ErrEntry},
		{"a page of the table", middling, file(512, 0, 5, 1), api.ErrEntry},
		{"the table's last page", middling, file(512, 0, 6, 1), api.ErrEntry},
		{"a run that begins in the table", middling, file(1024, 0, 6, 2), api.ErrEntry},
		{"the first page behind the table", middling, file(512, 0, 7, 1), api.OK},
		{"the last page of 40", middling, file(512, 0, 39, 1), api.OK},
		{"page 40", middling, file(512, 0, 40, 1), api.ErrEntry},
		{"page 4", middling, file(512, 0, 4, 1), api.ErrMeaning},
		{"page 1023", large, file(512, 0, 1023, 1), api.OK},
		{"page 35", large, file(512, 0, 35, 1), api.ErrEntry},
		{"page 1024", large, file(512, 0, 1024, 1), api.ErrMeaning},
		{"behind the file", small, file(512, 1, 9, 1), api.ErrMeaning},
		{"100 links", small, with(file(512, 0, 9, 1), func(n *api.Node) { n.Links = 100 }), api.OK},
		{"101 links", small, with(file(512, 0, 9, 1), func(n *api.Node) { n.Links = 101 }), api.ErrSlot},
		{"holes alone", small, file(9999), api.OK},
	} {
		n := in(c.sh, c.n)
		pages := drawnPages(chance(), c.sh, gc.Want(n), n.Log...)
		if c.want != api.OK {
			if c.want == api.ErrMeaning || c.want == api.ErrSlot {
				pages = []int{c.sh.Data + 1}
			}
			refused(t, c.what, plain(t, c.sh), c.sh, n, pages, c.want)
			b := plain(t, c.sh).View()
			put(b, 512, 77)
			refused(t, c.what+" and a journal that isn't sealed", load(t, b), c.sh, n, pages, c.want)
			continue
		}
		collects(t, c.what, plain(t, c.sh), c.sh, n, pages)
	}
}

// TestP10_3NoEntries: what has no canonical entries wants no pages, and is refused for the journal all the same.
func TestP10_3NoEntries(t *testing.T) {
	for _, n := range []api.Node{dir(0, 7), file(0), dir(0, 0)} {
		refused(t, "a page for nothing", plain(t, small), small, n, []int{7}, api.ErrPages)
		b := plain(t, small).View()
		journaled(b, api.Undo{At: 2128, Old: 1})
		refused(t, "a journal", load(t, b), small, n, nil, api.ErrUndo)
		collects(t, "nil", plain(t, small), small, n, nil)
		collects(t, "an empty list", plain(t, small), small, n, []int{})
	}
}

// TestP10_3NotLookedAt: the device's slot, log and superblock, the node's Entries, wild pages in its Log, pages of its Map, and what its journal's reader doesn't look at: nothing of it is refused.
func TestP10_3NotLookedAt(t *testing.T) {
	r := chance()
	zeros := make([]byte, 24*512)
	noise := make([]byte, 24*512)
	r.Read(noise)
	put(noise, 512, 0)
	for i, b := range [][]byte{zeros, noise} {
		collects(t, "bytes "+strconv.Itoa(i), load(t, b), small, second(), []int{7})
	}
	for _, entries := range append(wild, 0, 1, 7, 13) {
		n := with(second(), func(n *api.Node) { n.Entries = entries })
		if got := collects(t, "Entries", plain(t, small), small, n, []int{7}); got.Entries != 1 {
			t.Errorf("Entries %d: %+v", entries, got)
		}
	}
	wildLog := with(second(), func(n *api.Node) { n.Log = append(slices.Clone(wild), 0, 4, 24, 1023, 1024, 5, 5) })
	if got := collects(t, "a wild log", plain(t, small), small, wildLog, []int{7}); !slices.Equal(got.Log, []int{7}) {
		t.Errorf("a wild log: %+v", got)
	}
	collects(t, "no log", plain(t, small), small, with(second(), func(n *api.Node) { n.Log = nil }), []int{7})
	collects(t, "a page of the map", plain(t, small), small, second(), []int{11})
	collects(t, "a tail in the head's page alone", plain(t, small), small, with(second(), func(n *api.Node) { n.Tail, n.Log = 3072, nil }), []int{6})
	for _, ino := range []int{1, 8} {
		collects(t, "the first and the last inode", plain(t, small), small, with(second(), func(n *api.Node) { n.Ino = ino }), []int{7})
	}
	twice := file(1024, 0, 10, 1, 1, 10, 1)
	collects(t, "a page at two places", plain(t, small), small, twice, []int{7})
}

// TestP10_3DeadDevice: what is refused is refused on a dead device too; what isn't answers ErrDead, and nothing is done.
func TestP10_3DeadDevice(t *testing.T) {
	for _, f := range faults() {
		a := fair(t, small)
		f.do(a)
		d := load(t, a.b)
		d.Arm(0)
		refused(t, f.what+" on a dead device", d, a.sh, a.n, a.pages, f.want)
	}
	for _, n := range []api.Node{second(), dir(0, 7)} {
		d := plain(t, small)
		d.Arm(0)
		refused(t, "a dead device", d, small, n, []int{7}[:gc.Want(n)], api.ErrDead)
	}
}

// TestP10_3JournalInDoubt: the journal is what its words are now, durable or not.
func TestP10_3JournalInDoubt(t *testing.T) {
	d := plain(t, small)
	d.Store(512, 77)
	refused(t, "a journal in doubt", d, small, second(), []int{7}, api.ErrUndo)
	b := plain(t, small).View()
	put(b, 512, 77)
	d = load(t, b)
	d.Store(512, 0)
	collects(t, "a journal that was emptied just now", d, small, second(), []int{7})
}

// TestP10_3LongLists: lists that are far too long end soon.
func TestP10_3LongLists(t *testing.T) {
	n := dir(200000, 32)
	pages := slices.Repeat([]int{9}, gc.Want(n))
	refused(t, "200000 names", plain(t, small), small, n, pages, api.ErrPages)
	n.Log = slices.Repeat([]int{5, 6, -1}, 100000)
	refused(t, "a long log", plain(t, small), small, n, pages, api.ErrPages)
	collects(t, "a long log", plain(t, small), small, with(second(), func(m *api.Node) { m.Log = n.Log }), []int{7})
}
