package tidy_test

import (
	"testing"

	"furrow/api"
	"furrow/files"
	"furrow/pmem"
	"furrow/volume"
)

// turns: the volume of example 1.
func turns(t *testing.T) (*pmem.Device, *volume.Volume) {
	t.Helper()
	d, v := fresh(t, small, 2)
	writes(t, v, 2, 0, page('1'))
	writes(t, v, 3, 0, page('2'))
	writes(t, v, 2, 512, page('3'))
	writes(t, v, 3, 512, page('4'))
	return d, v
}

// TestP24Example1: two files that grew beside one another.
func TestP24Example1(t *testing.T) {
	_, v := turns(t)
	maps(t, v, 2, 0, 6, 1, 1, 10, 1)
	maps(t, v, 3, 0, 8, 1, 1, 11, 1)
	spread(t, v, 4)
	free(t, v, 12, 12)
}

// TestP24Example2And3: one is written anew; to both there is no better offer then.
func TestP24Example2And3(t *testing.T) {
	d, v := turns(t)
	was := seenOf(t, v)
	file(t, v, 2, true, api.OK)
	maps(t, v, 2, 0, 12, 2)
	maps(t, v, 3, 0, 8, 1, 1, 11, 1)
	free(t, v, 6, 1, 10, 1, 14, 10)
	spread(t, v, 3)
	stays(t, "example 3, b", d, v, 3)
	stays(t, "example 3, a", d, v, 2)
	same(t, "example 3", v, was)
	meant(t, "example 3", d, v)
}

// TestP24Example4: All does the same.
func TestP24Example4(t *testing.T) {
	d, v := turns(t)
	all(t, v, 1, api.OK)
	maps(t, v, 2, 0, 12, 2)
	maps(t, v, 3, 0, 8, 1, 1, 11, 1)
	free(t, v, 6, 1, 10, 1, 14, 10)
	still(t, "All again", d, v, func() { all(t, v, 0, api.OK) })
}

// TestP24Example5: what is refused, and a file without pages.
func TestP24Example5(t *testing.T) {
	d, v := turns(t)
	makes(t, v, 1, "c", api.KindFile)
	still(t, "example 5", d, v, func() {
		file(t, v, 1, false, api.ErrIsDir)
		file(t, v, 5, false, api.ErrNoFile)
		file(t, v, 0, false, api.ErrNoFile)
		file(t, v, 4, false, api.OK)
	})
	if e := v.Unmount(); e != api.OK {
		t.Fatal("Unmount", e)
	}
	closed(t, "example 5", v)
}

// takes: a file without pages takes all free pages but so many, one of them for its log.
func takes(t *testing.T, v *volume.Volume, ino, left int) {
	t.Helper()
	edit := api.Edit{Ino: ino}
	for off := range v.FreePages() - 1 - left {
		edit.Fills = append(edit.Fills, api.Fill{Off: off, Data: []byte(page('t'))})
		edit.Size += 512
	}
	does(t, v, edit)
	if v.FreePages() != left {
		t.Fatalf("free: %v; want %d", v.State().Free, left)
	}
}

// filled: a and b have six pages each, in turn, six runs each; a's log is full, if it shall be; c takes all free pages but so many, which stand side by side.
func filled(t *testing.T, fullLog bool, left int) (*pmem.Device, *volume.Volume) {
	t.Helper()
	d, v := fresh(t, api.Super{Pages: 60, Inodes: 8, Cores: 1}, 3)
	for i := range 6 {
		writes(t, v, 2, 512*i, page('a'+byte(i)))
		writes(t, v, 3, 512*i, page('b'))
	}
	if fullLog {
		does(t, v, api.Edit{Ino: 2, Entries: []api.Entry{{Kind: api.EntSize, Size: 3072}}})
	}
	takes(t, v, 4, left)
	if n := node(t, v, 2); len(n.Map) != 6 || len(n.Log) != 1 || (n.Entries == 7) != fullLog || len(v.State().Free) > 1 {
		t.Fatalf("%+v, free %v", n, v.State().Free)
	}
	return d, v
}

// TestP24Example6: too few pages for the file, or none for its log.
func TestP24Example6(t *testing.T) {
	d, v := filled(t, false, 5)
	stays(t, "no offer", d, v, 2)
	d, v = filled(t, true, 6)
	stays(t, "no page for the log", d, v, 2)
	whole, _ := files.Whole(v, 2)
	edit := api.Edit{Ino: 2, Size: 3072}
	for off := range 6 {
		edit.Fills = append(edit.Fills, api.Fill{Off: off, Data: []byte(whole[512*off : 512*off+512])})
	}
	if e := v.Do([]api.Edit{edit}); e != api.ErrNoSpace {
		t.Fatal("Do =", e)
	}
}

// TestP24Example7: a file with holes keeps them, and its pages do not come behind one another over them.
func TestP24Example7(t *testing.T) {
	d, v := fresh(t, small, 2)
	writes(t, v, 2, 0, "") // nothing is done
	writes(t, v, 3, 0, page('b'))
	writes(t, v, 3, 512, page('b'))
	writes(t, v, 2, 0, page('0')) // page 9, and its log: 10
	writes(t, v, 2, 512, page('1'))
	writes(t, v, 2, 3584, page('7'))
	maps(t, v, 2, 0, 9, 1, 1, 11, 1, 7, 12, 1)
	writes(t, v, 3, 0, page('c')) // page 13; page 6 is free
	free(t, v, 6, 1, 14, 10)
	stays(t, "the offer 6, 14, 15", d, v, 2)
	writes(t, v, 3, 1024, page('d')) // page 6
	was := seenOf(t, v)
	file(t, v, 2, true, api.OK)
	maps(t, v, 2, 0, 14, 2, 7, 16, 1)
	free(t, v, 9, 1, 11, 2, 17, 7)
	same(t, "example 7", v, was)
	stays(t, "example 7 again", d, v, 2)
}
