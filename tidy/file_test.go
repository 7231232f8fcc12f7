package tidy_test

import (
	"testing"

	"furrow/api"
	"furrow/files"
	"furrow/gc"
	"furrow/pmem"
	"furrow/tidy"
	"furrow/tree"
	"furrow/volume"
)

func truncates(t *testing.T, v *volume.Volume, ino, size int) {
	t.Helper()
	if e := files.Truncate(v, ino, size); e != api.OK {
		t.Fatalf("Truncate(%d, %d) = %v", ino, size, e)
	}
}

// sized: entries that say nothing new, so that a log grows.
func sized(t *testing.T, v *volume.Volume, ino, many int) {
	t.Helper()
	for range many {
		does(t, v, api.Edit{Ino: ino, Entries: []api.Entry{{Kind: api.EntSize, Size: node(t, v, ino).Size}}})
	}
}

// TestP24_1Spread: runs of files alone, each file once.
func TestP24_1Spread(t *testing.T) {
	d, v := fresh(t, middling, 2)
	spread(t, v, 0)
	dir := makes(t, v, 1, "dir", api.KindDir)
	makes(t, v, dir, "c", api.KindFile)
	spread(t, v, 0)
	writes(t, v, 2, 0, page('a')+page('a'))
	spread(t, v, 1)
	writes(t, v, 2, 512*7, "behind a hole")
	spread(t, v, 2)
	writes(t, v, 5, 100, "below a directory")
	spread(t, v, 3)
	if e := tree.Link(v, dir, "again", 2); e != api.OK {
		t.Fatal("Link", e)
	}
	truncates(t, v, 3, 5000) // a file with bytes, and without a page
	still(t, "Spread", d, v, func() { spread(t, v, 3) })
	d.Arm(0)
	spread(t, v, 3)
	if e := files.Write(v, 2, 0, "x"); e != api.ErrDead {
		t.Fatal("Write", e)
	}
	spread(t, v, 0)
}

// TestP24_1LongRuns: a run may be longer than an entry.
func TestP24_1LongRuns(t *testing.T) {
	_, v := fresh(t, api.Super{Pages: 80, Inodes: 8, Cores: 1}, 1)
	takes(t, v, 2, 20)
	spread(t, v, 1)
	if n := node(t, v, 2); n.Entries < 2 {
		t.Fatalf("%+v", n)
	}
}

// TestP24_2Order: a directory is told as one, whatever there is to be done, and a number that isn't there as none.
func TestP24_2Order(t *testing.T) {
	d, v := turns(t)
	dir := makes(t, v, 1, "dir", api.KindDir)
	still(t, "refused", d, v, func() {
		file(t, v, 1, false, api.ErrIsDir)
		file(t, v, dir, false, api.ErrIsDir)
		for _, ino := range append([]int{dir + 1, 8, 9}, wild...) {
			file(t, v, ino, false, api.ErrNoFile)
		}
	})
	d.Arm(0)
	file(t, v, 1, false, api.ErrIsDir)
	file(t, v, 8, false, api.ErrNoFile)
	file(t, v, 2, false, api.ErrDead)
	closed(t, "dead", v)
}

// TestP24_2Stays: files to which no offer can be better.
func TestP24_2Stays(t *testing.T) {
	d, v := fresh(t, middling, 3)
	stays(t, "no bytes", d, v, 2)
	truncates(t, v, 2, 262144)
	stays(t, "bytes, but no page", d, v, 2)
	writes(t, v, 3, 0, "one page")
	stays(t, "one page", d, v, 3)
	writes(t, v, 4, 0, page('a')+page('b')+page('c'))
	stays(t, "one run", d, v, 4)
	truncates(t, v, 4, 0)
	writes(t, v, 4, 0, page('a'))
	writes(t, v, 4, 1024, page('c'))
	writes(t, v, 4, 2048, page('e'))
	stays(t, "pages with holes between them", d, v, 4)
	d.Arm(0)
	stays(t, "a dead device, of which nothing is asked", d, v, 4)
	all(t, v, 0, api.OK)
	spread(t, v, 4)
}

// TestP24_2JustRoom: as many free pages as the file has are enough, if its log has a place; one more, if it has none.
func TestP24_2JustRoom(t *testing.T) {
	for _, c := range []struct {
		fullLog bool
		left    int
		did     bool
	}{{false, 0, false}, {false, 5, false}, {false, 6, true}, {false, 7, true}, {true, 5, false}, {true, 6, false}, {true, 7, true}} {
		d, v := filled(t, c.fullLog, c.left)
		was := seenOf(t, v)
		if !c.did {
			stays(t, "too few pages", d, v, 2)
			continue
		}
		first := v.State().Free[0].From
		file(t, v, 2, true, api.OK)
		maps(t, v, 2, 0, first, 6)
		same(t, "just room", v, was)
		meant(t, "just room", d, v)
		if n := node(t, v, 2); c.fullLog && (len(n.Log) != 2 || n.Log[1] != first+6 || n.Entries != 8) {
			t.Errorf("the log's pages are %v, with %d entries", n.Log, n.Entries)
		}
	}
}

// TestP24_2Pieces: an offer in two pieces wants two entries: a log with one place left wants a page for them.
func TestP24_2Pieces(t *testing.T) {
	pieces := func(left int) (*pmem.Device, *volume.Volume) {
		d, v := fresh(t, small, 3)
		for i := range 3 {
			writes(t, v, 2, 512*i, page('a'+byte(i)))
			writes(t, v, 3, 512*i, page('b'))
		}
		maps(t, v, 2, 0, 6, 1, 1, 10, 1, 2, 12, 1)
		sized(t, v, 2, 3)
		takes(t, v, 4, left)
		truncates(t, v, 3, 1024)
		return d, v
	}
	d, v := pieces(2)
	free(t, v, 13, 1, 22, 2)
	stays(t, "no page for the log", d, v, 2)
	d, v = pieces(3)
	free(t, v, 13, 1, 21, 3)
	file(t, v, 2, true, api.OK)
	maps(t, v, 2, 0, 13, 1, 1, 21, 2)
	free(t, v, 6, 1, 10, 1, 12, 1)
	meant(t, "pieces", d, v)
	stays(t, "pieces again", d, v, 2)
}

// grown: a device with the areas 6 to 23, 24 to 41 and 42 to 59, the root's log in the second; two files of one core have four pages each, in turn.
func grown(t *testing.T, one, other int) (*pmem.Device, *volume.Volume) {
	t.Helper()
	d, v := fresh(t, middling, 12)
	for i := range 4 {
		writes(t, v, one, 512*i, page('a'+byte(i)))
		writes(t, v, other, 512*i, page('b'))
	}
	return d, v
}

// leavesTwo: a file takes the pages of its core's area from one page on, but for the last two; one of them for its log.
func leavesTwo(t *testing.T, v *volume.Volume, ino, from, end int) {
	t.Helper()
	edit := api.Edit{Ino: ino}
	for off := range end - from - 3 {
		edit.Fills = append(edit.Fills, api.Fill{Off: off, Data: []byte(page('t'))})
		edit.Size += 512
	}
	does(t, v, edit)
	if n := node(t, v, ino); n.Map[0] != (api.Run{Page: from, Count: end - from - 3}) || n.Log[0] != end-3 {
		t.Fatalf("%+v", n)
	}
}

// TestP24_2Border: an offer that goes on over the border of two areas is one run.
func TestP24_2Border(t *testing.T) {
	d, v := grown(t, 4, 7)
	maps(t, v, 4, 0, 26, 1, 1, 30, 1, 2, 32, 1, 3, 34, 1)
	leavesTwo(t, v, 10, 36, 42)
	free(t, v, 6, 18, 40, 20)
	was := seenOf(t, v)
	file(t, v, 4, true, api.OK)
	maps(t, v, 4, 0, 40, 4)
	same(t, "border", v, was)
	stays(t, "border again", d, v, 4)
}

// TestP24_2Round: behind the last core's area comes the first one's, which begins a run.
func TestP24_2Round(t *testing.T) {
	d, v := grown(t, 5, 8)
	maps(t, v, 5, 0, 42, 1, 1, 46, 1, 2, 48, 1, 3, 50, 1)
	leavesTwo(t, v, 11, 52, 60)
	free(t, v, 6, 18, 26, 16, 58, 2)
	was := seenOf(t, v)
	file(t, v, 5, true, api.OK)
	maps(t, v, 5, 0, 58, 2, 2, 6, 2)
	same(t, "round", v, was)
	stays(t, "round again", d, v, 5)
}

// TestP24_2BehindTheEnd: a page goes as it is, what stands behind the file's end too.
func TestP24_2BehindTheEnd(t *testing.T) {
	r := chance()
	_, v := fresh(t, small, 2)
	first, last := noise(r, 512), noise(r, 512)
	does(t, v, api.Edit{Ino: 2, Fills: []api.Fill{{Off: 0, Data: []byte(first)}}, Size: 512})
	writes(t, v, 3, 0, "between")
	does(t, v, api.Edit{Ino: 2, Fills: []api.Fill{{Off: 1, Data: []byte(last)}}, Size: 515})
	file(t, v, 2, true, api.OK)
	maps(t, v, 2, 0, 11, 2)
	for off, want := range []string{first, last} {
		if b, e := v.Page(2, off); string(b) != want || e != api.OK {
			t.Errorf("Page(2, %d) = %q, %v", off, b, e)
		}
	}
	if n := node(t, v, 2); n.Size != 515 {
		t.Errorf("it has %d bytes", n.Size)
	}
}

// TestP24_5ZeroPages: a page that is all zeros is no hole, and stays none.
func TestP24_5ZeroPages(t *testing.T) {
	_, v := fresh(t, small, 2)
	writes(t, v, 2, 0, page('a'))
	writes(t, v, 3, 0, "between")
	writes(t, v, 2, 512, page(0))
	writes(t, v, 3, 0, "and again")
	writes(t, v, 2, 1024, page('c')+page(0))
	maps(t, v, 2, 0, 6, 1, 1, 10, 1, 2, 8, 1, 3, 12, 1)
	was := seenOf(t, v)
	file(t, v, 2, true, api.OK)
	maps(t, v, 2, 0, 13, 4)
	same(t, "zero pages", v, was)
}

// TestP24_2Largest: a file that reaches to the last page that a file may have, written from behind; its new log is collected at once.
func TestP24_2Largest(t *testing.T) {
	r := chance()
	d, v := fresh(t, large, 1)
	for off := 511; off >= 100; off-- {
		writes(t, v, 2, 512*off, noise(r, 512))
	}
	spread(t, v, 412)
	was, w := seenOf(t, v), twinOf(t, d)
	if did, e := fileBeside(t, d, v, w, 2); !did || e != api.OK {
		t.Fatalf("File = %v, %v", did, e)
	}
	same(t, "largest", v, was)
	meant(t, "largest", d, v)
	if n := node(t, v, 2); n.Size != 262144 || len(n.Map) >= 412 || n.Entries > 60 || gc.Due(n) {
		t.Errorf("%d bytes, %d runs, %d entries", n.Size, len(n.Map), n.Entries)
	}
}

// TestP24_2Collected: what is behind the transaction is done too: the file's log is collected where it is due.
func TestP24_2Collected(t *testing.T) {
	d, v := turns(t)
	sized(t, v, 2, 11)
	if n := node(t, v, 2); n.Entries != 13 {
		t.Fatalf("%+v", n)
	}
	was, w := seenOf(t, v), twinOf(t, d)
	if did, e := fileBeside(t, d, v, w, 2); !did || e != api.OK {
		t.Fatalf("File = %v, %v", did, e)
	}
	if n := node(t, v, 2); n.Entries != 1 || len(n.Log) != 1 || len(n.Map) != 1 {
		t.Errorf("%+v", n)
	}
	same(t, "collected", v, was)
	meant(t, "collected", d, v)
}

// TestP24_2Dead: a device that dies at any step of File.
func TestP24_2Dead(t *testing.T) {
	for n := 0; ; n++ {
		d, v := turns(t)
		w := twinOf(t, d)
		d.Arm(n)
		w.d.Arm(n)
		did, e := tidy.File(v, 2)
		if want, no := w.file(2); did != want || e != no {
			t.Fatalf("dead behind %d steps: File = %v, %v; want %v, %v", n, did, e, want, no)
		}
		w.alike(t, "dead", d, v)
		if e == api.OK {
			return
		}
		if did || e != api.ErrDead {
			t.Fatalf("dead behind %d steps: File = %v, %v", n, did, e)
		}
		closed(t, "dead", v)
	}
}
