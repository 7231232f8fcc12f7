package volume_test

import (
	"strings"
	"testing"

	"furrow/api"
	"furrow/pmem"
	"furrow/volume"
)

// furnished: the root has the file a (2, with two pages and a name more, b), the directory d (3) with the file e (4), and an empty directory x (5); 6 to 8 are free.
func furnished(t *testing.T) (*pmem.Device, *volume.Volume) {
	t.Helper()
	d, v := fresh(t, small)
	does(t, v, api.OK, says(1, add("a", 2), add("b", 2), add("d", 3)), api.Edit{Ino: 2, Kind: api.KindFile, Links: 2}, newDir(3))
	does(t, v, api.OK, says(3, add("e", 4)), newFile(4))
	does(t, v, api.OK, says(1, add("x", 5)), newDir(5))
	does(t, v, api.OK, writes(2, 1000, fills('a', 0, 1)...))
	return d, v
}

func allRefused(t *testing.T, lists ...[]api.Edit) {
	t.Helper()
	d, v := furnished(t)
	for _, edits := range lists {
		refuses(t, d, v, api.ErrEdit, edits...)
	}
}

// allDone: each of them on a volume of its own.
func allDone(t *testing.T, lists ...[]api.Edit) {
	t.Helper()
	for _, edits := range lists {
		d, v := furnished(t)
		does(t, v, api.OK, edits...)
		holds(t, text(edits), d, v)
	}
}

func TestP15_7Number(t *testing.T) {
	allRefused(t, nil, []api.Edit{}, []api.Edit{{Ino: 1}, {Ino: 2}, {Ino: 3}, {Ino: 4}, {Ino: 5}}, []api.Edit{{Ino: 2}, {Ino: 2}}, []api.Edit{{Ino: 1}, {Ino: 2}, {Ino: 3}, {Ino: 1}},
		[]api.Edit{{Ino: 2}, {Ino: 3}, {Ino: 3}}, make([]api.Edit, 1000), []api.Edit{says(1, add("n", 6)), newFile(6), {Ino: 6}}, []api.Edit{{Ino: 9}}, []api.Edit{{Ino: 1}, {Ino: 0}})
	d, v := furnished(t)
	for _, ino := range wild {
		if ino < 1 || ino > 8 {
			refuses(t, d, v, api.ErrEdit, api.Edit{Ino: ino})
			refuses(t, d, v, api.ErrEdit, api.Edit{Ino: 1}, api.Edit{Ino: ino, Kind: api.KindFile, Links: 1})
		}
	}
	allDone(t, []api.Edit{{Ino: 1}}, []api.Edit{{Ino: 1}, {Ino: 2}, {Ino: 3}, {Ino: 4}}, []api.Edit{{Ino: 4}, {Ino: 3}})
}

func TestP15_7Kind(t *testing.T) {
	d, v := furnished(t)
	for _, kind := range append(wild, 3, 4, 7) {
		if kind != 0 && kind != api.KindFile && kind != api.KindDir {
			refuses(t, d, v, api.ErrEdit, says(1, add("n", 6)), api.Edit{Ino: 6, Kind: kind, Links: 1})
			refuses(t, d, v, api.ErrEdit, api.Edit{Ino: 2, Kind: kind})
		}
	}
	allRefused(t, []api.Edit{{Ino: 6}}, []api.Edit{says(1, add("n", 6)), {Ino: 6, Links: 1}}, []api.Edit{{Ino: 2, Kind: api.KindFile, Links: 2}}, []api.Edit{{Ino: 2, Kind: api.KindDir, Links: 1}},
		[]api.Edit{{Ino: 5, Kind: api.KindDir, Links: 1}}, []api.Edit{{Ino: 1, Kind: api.KindDir, Links: 1}}, []api.Edit{{Ino: 1}, frees(6)})
	allDone(t, []api.Edit{says(1, add("n", 6)), newFile(6)}, []api.Edit{newDir(8), says(5, add("n", 8))})
}

func TestP15_7Links(t *testing.T) {
	d, v := furnished(t)
	for _, links := range append(wild, 101, 102, -3) {
		if links != 0 && links != -1 && (links < 1 || links > 100) {
			refuses(t, d, v, api.ErrEdit, api.Edit{Ino: 2, Links: links})
			refuses(t, d, v, api.ErrEdit, says(1, add("n", 6)), api.Edit{Ino: 6, Kind: api.KindFile, Links: links})
		}
	}
	allRefused(t,
		[]api.Edit{says(1, add("n", 6)), {Ino: 6, Kind: api.KindFile}}, []api.Edit{says(1, add("n", 6)), {Ino: 6, Kind: api.KindDir}}, []api.Edit{{Ino: 6, Kind: api.KindFile, Links: -1}}, []api.Edit{{Ino: 6, Kind: api.KindDir, Links: -1}},
		[]api.Edit{{Ino: 5, Links: 2}}, []api.Edit{{Ino: 1, Links: 2}}, []api.Edit{says(1, add("n", 6), add("o", 6)), {Ino: 6, Kind: api.KindDir, Links: 2}}, []api.Edit{says(1, add("n", 6)), {Ino: 6, Kind: api.KindDir, Links: 100}},
		[]api.Edit{frees(1)}, []api.Edit{says(1, drop("x")), {Ino: 5, Links: -1, Entries: []api.Entry{add("n", 4)}}}, []api.Edit{says(1, drop("a"), drop("b")), {Ino: 2, Links: -1, Entries: []api.Entry{size(0)}}},
		[]api.Edit{says(1, drop("a"), drop("b")), {Ino: 2, Links: -1, Fills: fills(1, 0), Size: 5}})
	allDone(t, []api.Edit{{Ino: 5, Links: 1}}, []api.Edit{{Ino: 1, Links: 1}}, []api.Edit{{Ino: 2, Links: 2}}, []api.Edit{says(1, drop("x")), frees(5)}, []api.Edit{says(1, drop("a"), drop("b")), frees(2)}, []api.Edit{frees(4), says(3, drop("e"))},
		[]api.Edit{says(1, drop("b")), {Ino: 2, Links: 1}}, []api.Edit{says(1, add("n", 6), add("o", 6)), {Ino: 6, Kind: api.KindFile, Links: 2}}, []api.Edit{{Ino: 2, Links: -1, Size: 5}, says(1, drop("a"), drop("b"))})
}

// TestP15_7MostLinks: a hundred names, and not one more.
func TestP15_7MostLinks(t *testing.T) {
	d, v := fresh(t, middling)
	e := says(1)
	for i := range 100 {
		e.Entries = append(e.Entries, add("n"+string(rune('a'+i/26))+string(rune('a'+i%26)), 2))
	}
	refuses(t, d, v, api.ErrEdit, e, api.Edit{Ino: 2, Kind: api.KindFile, Links: 99})
	does(t, v, api.OK, e, api.Edit{Ino: 2, Kind: api.KindFile, Links: 100})
	refuses(t, d, v, api.ErrEdit, says(1, add("z", 2)), api.Edit{Ino: 2, Links: 101})
	refuses(t, d, v, api.ErrEdit, says(1, add("z", 2)))
	does(t, v, api.OK, says(1, drop("nab"), add("z", 2)))
	holds(t, "P15.7", d, v)
}

func TestP15_7Entries(t *testing.T) {
	write := api.Entry{Kind: api.EntWrite, Count: 1, Page: 20, Size: 5}
	allRefused(t,
		[]api.Edit{says(2, write)}, []api.Edit{says(2, size(5), write)}, []api.Edit{says(2, write), {Ino: 3}}, []api.Edit{says(2, api.Entry{Kind: api.EntWrite})},
		[]api.Edit{says(1, add("n", 9), drop("n"))}, []api.Edit{says(1, add("n", 256), drop("n"))}, []api.Edit{says(1, add("n", 257))}, []api.Edit{says(1, add("n", 1))}, []api.Edit{says(1, add("n", 1), drop("n"))}, []api.Edit{says(1, add("n", 0))}, []api.Edit{says(1, add("n", -1), drop("n"))},
		[]api.Edit{says(1, drop("q"))}, []api.Edit{says(1, add("a", 2)), {Ino: 2, Links: 3}}, []api.Edit{says(1, drop("a"), drop("a")), {Ino: 2, Links: 1}}, []api.Edit{says(1, add("n", 6), add("n", 6)), {Ino: 6, Kind: api.KindFile, Links: 2}},
		[]api.Edit{says(1, add("", 2)), {Ino: 2, Links: 3}}, []api.Edit{says(1, add("n/m", 2)), {Ino: 2, Links: 3}}, []api.Edit{says(1, add("..", 2)), {Ino: 2, Links: 3}}, []api.Edit{says(1, add(strings.Repeat("n", 29), 2)), {Ino: 2, Links: 3}},
		[]api.Edit{says(1, size(0))}, []api.Edit{says(2, add("n", 4))}, []api.Edit{says(2, drop("n"))}, []api.Edit{says(2, size(-1))}, []api.Edit{says(2, size(262145))}, []api.Edit{says(2, api.Entry{})}, []api.Edit{says(2, api.Entry{Kind: 5})}, []api.Edit{says(2, api.Entry{Kind: api.EntSize, Off: 1})},
		[]api.Edit{says(1, add("n", 6)), {Ino: 6, Kind: api.KindFile, Links: 1, Entries: []api.Entry{drop("n")}}}, []api.Edit{says(1, add("n", 6)), {Ino: 6, Kind: api.KindDir, Links: 1, Entries: []api.Entry{size(5)}}}, []api.Edit{says(1, add("n", 6)), {Ino: 6, Kind: api.KindDir, Links: 1, Entries: []api.Entry{drop("a")}}},
		[]api.Edit{{Ino: 2}, says(2, size(262145))})
	wildSeq := size(5)
	wildSeq.Seq = 1 << 63
	allDone(t, []api.Edit{says(2, wildSeq)}, []api.Edit{says(1, drop("a"), add("a", 2))}, []api.Edit{says(1, add("n", 6), drop("n"), add("n", 6)), newFile(6)}, []api.Edit{says(2, size(262144), size(0))}, []api.Edit{says(1, add(strings.Repeat("n", 28), 2)), {Ino: 2, Links: 3}},
		[]api.Edit{says(1, add("n", 6)), {Ino: 6, Kind: api.KindDir, Links: 1, Entries: []api.Entry{add("o", 7), drop("o"), add("a", 7)}}, newFile(7)}, []api.Edit{says(1, add("n", 8), drop("n"))}) // 8 is free, but the name goes again
}

func TestP15_7Fills(t *testing.T) {
	short, long := []api.Fill{{Off: 0, Data: data(1)[:511]}}, []api.Fill{{Off: 0, Data: append(data(1), 1)}}
	allRefused(t,
		[]api.Edit{writes(1, 5, fills(1, 0)...)}, []api.Edit{says(1, add("n", 6)), {Ino: 6, Kind: api.KindDir, Links: 1, Fills: fills(1, 0), Size: 5}}, []api.Edit{writes(6, 5, fills(1, 0)...)},
		[]api.Edit{writes(2, 600, fills(1, 0, 0)...)}, []api.Edit{writes(2, 2000, fills(1, 2, 1)...)}, []api.Edit{writes(2, 2000, fills(1, 0, 1, 1)...)}, []api.Edit{writes(2, 600, fills(1, -1, 0)...)}, []api.Edit{writes(2, 600, fills(1, -1)...)}, []api.Edit{writes(2, 262144, fills(1, 512)...)}, []api.Edit{writes(2, 262144, fills(1, 0, 512)...)},
		[]api.Edit{writes(2, 5, short...)}, []api.Edit{writes(2, 5, long...)}, []api.Edit{writes(2, 5, api.Fill{})}, []api.Edit{writes(2, 600, append(fills(1, 0), api.Fill{Off: 1})...)},
		[]api.Edit{writes(2, 0, fills(1, 0)...)}, []api.Edit{writes(2, -1, fills(1, 0)...)}, []api.Edit{writes(2, 262145, fills(1, 0)...)}, []api.Edit{writes(2, 512, fills(1, 1)...)}, []api.Edit{writes(2, 511, fills(1, 0, 1)...)}, []api.Edit{writes(2, 511*512, fills(1, 511)...)})
	d, v := furnished(t)
	for _, n := range wild {
		if n < 0 || n > 511 {
			refuses(t, d, v, api.ErrEdit, writes(2, 262144, fills(1, n)...))
		}
		if n < 1 || n > 262144 {
			refuses(t, d, v, api.ErrEdit, writes(2, n, fills(1, 0)...))
		}
	}
	allDone(t, []api.Edit{writes(2, 1, fills(1, 0)...)}, []api.Edit{writes(2, 513, fills(1, 0, 1)...)}, []api.Edit{writes(2, 262144, fills(1, 0)...)}, []api.Edit{writes(2, 511*512+1, fills(1, 511)...)}, []api.Edit{writes(2, 262144, fills(1, 0, 511)...)},
		[]api.Edit{{Ino: 2, Size: -7}}, []api.Edit{{Ino: 2, Size: 1 << 40, Fills: []api.Fill{}}}, []api.Edit{{Ino: 1, Size: 5}}, []api.Edit{says(1, add("n", 6)), {Ino: 6, Kind: api.KindFile, Links: 1, Fills: fills(1, 3), Size: 2048}})
}

// TestP15_7Words: eight words of the table may change, nine may not. The root's log is not empty, those of 2, 4 and 5 are.
func TestP15_7Words(t *testing.T) {
	base := func(t *testing.T) (*pmem.Device, *volume.Volume) {
		d, v := fresh(t, middling)
		does(t, v, api.OK, says(1, add("a", 2), add("d", 3)), newFile(2), newDir(3))
		does(t, v, api.OK, says(3, add("e", 4), add("x", 5)), newFile(4), newDir(5))
		return d, v
	}
	file := func(ino int) api.Edit {
		e := newFile(ino)
		e.Entries = []api.Entry{size(3)}
		return e
	}
	dir := func(ino, has int) api.Edit {
		e := newDir(ino)
		e.Entries = []api.Entry{add("in", has)}
		return e
	}
	for _, edits := range [][]api.Edit{ // 1 + 3 + 3 + 2; 1 + 3 + 3 + 3; 1 + 3 + 3 + 2 with Fills; 2 + 2 + 3 + 2
		{says(1, add("n", 6)), dir(6, 7), dir(7, 8), newFile(8)},
		{says(1, add("n", 6)), dir(6, 7), dir(7, 8), file(8)},
		{says(1, add("n", 6), add("o", 7), add("p", 8)), {Ino: 6, Kind: api.KindFile, Links: 1, Fills: fills(1, 0), Size: 1}, file(7), newFile(8)},
		{says(5, add("n", 6)), says(2, size(5)), file(6), writes(4, 5, fills(1, 0)...)},
	} {
		d, v := base(t)
		refuses(t, d, v, api.ErrEdit, edits...)
	}
	for _, edits := range [][]api.Edit{ // 1 + 3 + 3 + 1; 2 + 2 + 2 + 2 with Links that stay; 1 + 3 + 3; 1 + 3 + 2 + 2; 2 + 2 + 2 + 2; 1 + 2 + 2 + 2; 1 + 1 + 1 + 1
		{says(1, add("n", 6), drop("a")), dir(6, 7), file(7), frees(2)},
		{says(5, add("n", 6)), {Ino: 2, Links: 1, Entries: []api.Entry{size(5)}}, newFile(6), {Ino: 4, Links: 1, Fills: fills(1, 0), Size: 5}},
		{says(1, add("n", 6)), dir(6, 7), file(7)},
		{says(1, add("n", 6), add("o", 8)), dir(6, 7), newFile(7), newFile(8)},
		{says(5, add("n", 6)), says(2, size(5)), newFile(6), writes(4, 5, fills(1, 0)...)},
		{says(1, add("n", 6), add("o", 7), add("p", 8)), newFile(6), newFile(7), newFile(8)},
		{says(1, drop("a")), frees(2), says(3, add("y", 4)), {Ino: 4, Links: 2}},
	} {
		d, v := base(t)
		does(t, v, api.OK, edits...)
		holds(t, text(edits), d, v)
	}
}

// TestP15_7Judge: names of what isn't there, numbers of names, what isn't reached.
func TestP15_7Judge(t *testing.T) {
	allRefused(t,
		[]api.Edit{says(1, add("n", 6))}, []api.Edit{newFile(6)}, []api.Edit{newDir(6)}, []api.Edit{says(1, add("n", 6)), {Ino: 6, Kind: api.KindFile, Links: 2}}, []api.Edit{says(1, add("n", 2))}, []api.Edit{says(1, add("n", 5))}, []api.Edit{says(1, add("n", 6), add("o", 6)), newDir(6)},
		[]api.Edit{{Ino: 2, Links: 1}}, []api.Edit{{Ino: 2, Links: 3}}, []api.Edit{says(1, drop("a"))}, []api.Edit{says(1, drop("d"))}, []api.Edit{frees(2)}, []api.Edit{frees(5)}, []api.Edit{says(1, drop("d")), frees(3)}, []api.Edit{says(1, drop("a")), frees(2)},
		[]api.Edit{says(1, drop("d")), says(5, add("d", 3)), says(3, add("x", 5))},            // a directory with two names
		[]api.Edit{says(1, drop("d"), drop("x")), says(5, add("d", 3)), says(3, add("x", 5))}, // two that have a name for one another
		[]api.Edit{says(1, drop("d")), says(3, add("d", 3))},                                  // one that stands below itself
		[]api.Edit{{Ino: 6, Kind: api.KindDir, Links: 1, Entries: []api.Entry{add("me", 6)}}})
	allDone(t, []api.Edit{says(1, drop("d")), says(5, add("d", 3))}, []api.Edit{says(1, drop("d")), frees(3), says(5, add("e", 4))}, []api.Edit{says(1, drop("d"), add("n", 6)), {Ino: 6, Kind: api.KindDir, Links: 1, Entries: []api.Entry{add("d", 3)}}})
}
