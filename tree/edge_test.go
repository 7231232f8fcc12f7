package tree_test

import (
	"fmt"
	"reflect"
	"testing"

	"furrow/api"
	"furrow/gc"
	"furrow/ilog"
	"furrow/pmem"
	"furrow/tree"
	"furrow/volume"
)

// TestP17_1Lowest: the lowest free number, whatever the order in which others went.
func TestP17_1Lowest(t *testing.T) {
	d, v := fresh(t, small)
	for i := 2; i <= 8; i++ {
		if n := makes(t, v, 1, fmt.Sprint("n", i), 1+i%2); n != i {
			t.Fatalf("number %d is %d", i, n)
		}
	}
	for kind := 1; kind <= 2; kind++ {
		for _, c := range []struct {
			name string
			want api.Errno
		}{{"new", api.ErrNoInodes}, {"n2", api.ErrExist}, {"", api.ErrBadName}} {
			refuses(t, "Make where none is free", d, v, c.want, func() api.Errno { _, e := tree.Make(v, 1, c.name, kind); return e })
		}
	}
	unlinks(t, v, 1, "n6")
	rmdirs(t, v, 1, "n3")
	unlinks(t, v, 1, "n4")
	for _, want := range []int{3, 4, 6} {
		if n := makes(t, v, 1, fmt.Sprint("new", want), api.KindDir); n != want {
			t.Errorf("the number is %d; want %d", n, want)
		}
	}
	refuses(t, "Make in what is full", d, v, api.ErrNoInodes, func() api.Errno { _, e := tree.Make(v, 3, "x", api.KindFile); return e })
}

// TestP17_1New: what is made has nothing of what had its number before.
func TestP17_1New(t *testing.T) {
	_, v := fresh(t, small)
	makes(t, v, 1, "f", api.KindFile)
	links(t, v, 1, "g", 2)
	writes(t, v, 2, 0, "bytes")
	unlinks(t, v, 1, "f")
	unlinks(t, v, 1, "g")
	makes(t, v, 1, "d", api.KindDir)
	stats(t, v, api.Stat{Ino: 2, Kind: api.KindDir, Links: 1})
	rmdirs(t, v, 1, "d")
	makes(t, v, 1, "f", api.KindFile)
	stats(t, v, api.Stat{Ino: 2, Kind: api.KindFile, Links: 1})
	if n := node(t, v, 2); n.Tail != 0 || len(n.Log) != 0 || n.Entries != 0 {
		t.Errorf("a new file: %+v", n)
	}
}

// TestP17_2MaxLinks: a file has a hundred names at most; it takes one more where one went.
func TestP17_2MaxLinks(t *testing.T) {
	d, v := fresh(t, api.Super{Pages: 100, Inodes: 8, Cores: 2})
	makes(t, v, 1, "f", api.KindFile)
	makes(t, v, 1, "d", api.KindDir)
	makes(t, v, 1, "other", api.KindFile)
	for i := 1; i < api.MaxLinks; i++ {
		stats(t, v, api.Stat{Ino: 2, Kind: api.KindFile, Links: i})
		links(t, v, 1+2*(i%2), fmt.Sprint("n", i), 2)
	}
	stats(t, v, api.Stat{Ino: 2, Kind: api.KindFile, Links: 100})
	refuses(t, "one more name", d, v, api.ErrLinks, func() api.Errno { return tree.Link(v, 1, "more", 2) })
	refuses(t, "one more name, in another directory", d, v, api.ErrLinks, func() api.Errno { return tree.Link(v, 3, "more", 2) })
	refuses(t, "a name that is there", d, v, api.ErrExist, func() api.Errno { return tree.Link(v, 1, "f", 2) })
	movesTo(t, v, 1, "f", 3, "still")
	stats(t, v, api.Stat{Ino: 2, Kind: api.KindFile, Links: 100})
	movesTo(t, v, 1, "other", 3, "still")
	stats(t, v, api.Stat{Ino: 2, Kind: api.KindFile, Links: 99})
	links(t, v, 1, "more", 2)
	refuses(t, "one more again", d, v, api.ErrLinks, func() api.Errno { return tree.Link(v, 1, "again", 2) })
}

// TestP17_3LastName: a file stays till its last name goes, with its bytes; then its number and pages are free.
func TestP17_3LastName(t *testing.T) {
	_, v := fresh(t, small)
	makes(t, v, 1, "d", api.KindDir)
	makes(t, v, 2, "x", api.KindFile)
	links(t, v, 1, "y", 3)
	links(t, v, 1, "z", 3)
	writes(t, v, 3, 512, "bytes")
	sum := walked(t, v)[2].Sum
	for i, c := range []entry{{1, "y"}, {2, "x"}} {
		unlinks(t, v, c.dir, c.name)
		stats(t, v, api.Stat{Ino: 3, Kind: api.KindFile, Size: 517, Links: 2 - i, Pages: 1})
	}
	leads(t, v, "/ /d /z", 1, 2, 3)
	if got := walked(t, v)[2].Sum; got != sum {
		t.Error("its bytes are others")
	}
	free := v.FreePages()
	unlinks(t, v, 1, "z")
	leads(t, v, "/ /d", 1, 2)
	if _, e := tree.Stat(v, 3); e != api.ErrNoFile || v.FreePages() != free+2 || v.FreeInodes() != 6 {
		t.Errorf("Stat: %v; %d pages were free, then %d; %d inodes", e, free, v.FreePages(), v.FreeInodes())
	}
}

// TestP17_5Over: what stood under the other name: a file with one name and one with two, a directory; in the same directory and in another.
func TestP17_5Over(t *testing.T) {
	for _, c := range []struct {
		call
		gone   int
		paths  string
		inodes []int
	}{
		{call{"move", 1, "f", 2, "g"}, 5, "/ /a /a/g /a/h /a/s /a/s/t /a/s/t/u /d /d/k /e", []int{1, 2, 3, 3, 6, 7, 8, 9, 8, 4}},
		{call{"move", 2, "g", 1, "f"}, 0, "/ /a /a/h /a/s /a/s/t /a/s/t/u /d /d/k /e /f", []int{1, 2, 3, 6, 7, 8, 9, 8, 4, 5}},
		{call{"move", 2, "g", 2, "h"}, 0, "/ /a /a/h /a/s /a/s/t /a/s/t/u /d /d/k /e /f", []int{1, 2, 5, 6, 7, 8, 9, 8, 4, 3}},
		{call{"move", 2, "h", 2, "g"}, 5, "/ /a /a/g /a/s /a/s/t /a/s/t/u /d /d/k /e /f", []int{1, 2, 3, 6, 7, 8, 9, 8, 4, 3}},
		{call{"move", 1, "a", 1, "e"}, 4, "/ /d /d/k /e /e/g /e/h /e/s /e/s/t /e/s/t/u /f", []int{1, 9, 8, 2, 5, 3, 6, 7, 8, 3}},
		{call{"move", 2, "s", 1, "e"}, 4, "/ /a /a/g /a/h /d /d/k /e /e/t /e/t/u /f", []int{1, 2, 5, 3, 9, 8, 6, 7, 8, 3}},
		{call{"move", 6, "t", 2, "s"}, -1, "", nil},
		{call{"move", 2, "s", 4, "deep"}, 0, "/ /a /a/g /a/h /d /d/k /e /e/deep /e/deep/t /e/deep/t/u /f", []int{1, 2, 5, 3, 9, 8, 4, 6, 7, 8, 3}},
		{call{"move", 1, "d", 7, "d"}, 0, "/ /a /a/g /a/h /a/s /a/s/t /a/s/t/d /a/s/t/d/k /a/s/t/u /e /f", []int{1, 2, 5, 3, 6, 7, 9, 8, 8, 4, 3}},
	} {
		d, v := furnished(t)
		if c.gone < 0 {
			refuses(t, c.String(), d, v, api.ErrNotEmpty, func() api.Errno { _, e := c.on(v); return e })
			continue
		}
		if _, e := c.beside(t, d, v, twinOf(t, d)); e != api.OK {
			t.Fatalf("%v = %v", c, e)
		}
		leads(t, v, c.paths, c.inodes...)
		for ino := 2; ino <= 9; ino++ {
			if _, e := v.Node(ino); (e == api.OK) == (ino == c.gone) {
				t.Errorf("%v: inode %d: %v", c, ino, e)
			}
		}
	}
}

// TestP17_8ThereAndBack: by a free name in between, in the same directory and in another.
func TestP17_8ThereAndBack(t *testing.T) {
	for _, todir := range []int{1, 2, 4, 6, 7, 9} {
		d, v := furnished(t)
		was := walked(t, v)
		for _, k := range changed(api.State{}, v.State()) {
			a, _ := v.Look(k.dir, k.name)
			switch e := tree.Move(v, k.dir, k.name, todir, "between"); {
			case e == api.ErrBelow:
				continue
			case e != api.OK:
				t.Fatalf("Move(%v, %d) = %v", k, todir, e)
			}
			if b, _ := v.Look(todir, "between"); a != b {
				t.Errorf("it stands for %d; want %d", b, a)
			}
			movesTo(t, v, todir, "between", k.dir, k.name)
			if now := walked(t, v); !reflect.DeepEqual(was, now) {
				t.Errorf("%v to %d and back: %+v, then %+v", k, todir, was, now)
			}
		}
		if now := walked(t, mounts(t, load(t, d.View()))); !reflect.DeepEqual(was, now) {
			t.Errorf("mounted anew: %+v", now)
		}
	}
}

// crowded: a volume of one core in which just so many pages are free. The files 3 and 4 have names in the root and in directory 2; the logs of both directories are full, or have room.
func crowded(t *testing.T, free int, full bool) (*pmem.Device, *volume.Volume) {
	t.Helper()
	d, v := fresh(t, small)
	makes(t, v, 1, "d", api.KindDir)
	makes(t, v, 1, "f", api.KindFile)
	makes(t, v, 1, "g", api.KindFile)
	makes(t, v, 1, "e", api.KindDir)
	makes(t, v, 1, "x", api.KindFile)
	makes(t, v, 2, "s", api.KindDir)
	for _, name := range []string{"p", "q", "r"} {
		links(t, v, 2, name, 3)
	}
	if full {
		links(t, v, 1, "h", 3)
		links(t, v, 1, "i", 4)
		for _, name := range []string{"u", "v", "w"} {
			links(t, v, 2, name, 4)
		}
	}
	var rest []api.Fill
	for off := range v.FreePages() - free - 1 { // one more is for the file's log
		rest = append(rest, api.Fill{Off: off, Data: make([]byte, 512)})
	}
	does(t, v, api.Edit{Ino: 6, Fills: rest, Size: 512 * len(rest)})
	for _, ino := range []int{1, 2} {
		if n := node(t, v, ino); v.FreePages() != free || (n.Tail%512 == 0) != full {
			t.Fatalf("%d pages are free, inode %d: %+v", v.FreePages(), ino, n)
		}
	}
	return d, v
}

// oneEach: a call of each kind that can be done in a crowded volume.
var oneEach = []call{
	{"make", 1, "new", api.KindFile, ""}, {"make", 2, "new", api.KindDir, ""}, {"link", 1, "new", 3, ""}, {"link", 2, "new", 6, ""},
	{"unlink", 1, "f", 0, ""}, {"unlink", 2, "r", 0, ""}, {"unlink", 1, "x", 0, ""}, {"rmdir", 1, "e", 0, ""}, {"rmdir", 2, "s", 0, ""},
	{"move", 1, "f", 1, "new"}, {"move", 1, "f", 1, "g"}, {"move", 1, "x", 1, "f"}, {"move", 2, "s", 1, "new"}, {"move", 2, "s", 1, "e"}, {"move", 1, "x", 2, "r"}, {"move", 1, "f", 2, "new"},
}

// needs: how many pages the logs of the directories need for the entries of a call.
func (c call) needs(t *testing.T, v *volume.Volume) int {
	t.Helper()
	tail := func(dir int) int { return node(t, v, dir).Tail }
	if c.op != "move" {
		return ilog.Need(tail(c.dir), 1)
	}
	comes := 1
	if ino, _ := v.Look(c.ino, c.toname); ino != 0 {
		comes = 2
	}
	if c.dir == c.ino {
		return ilog.Need(tail(c.dir), 1+comes)
	}
	return ilog.Need(tail(c.dir), 1) + ilog.Need(tail(c.ino), comes)
}

// TestR10Costs: with one free page (a move: two) each call is done; where fewer are free it is done if the logs have room.
func TestR10Costs(t *testing.T) {
	most := map[string]int{}
	for _, c := range oneEach {
		for _, full := range []bool{false, true} {
			for free := range 4 {
				d, v := crowded(t, free, full)
				need := c.needs(t, v)
				most[c.op] = max(most[c.op], need)
				_, e := c.beside(t, d, v, twinOf(t, d))
				if want := free >= need; want != (e == api.OK) || !want && e != api.ErrNoSpace {
					t.Errorf("%d pages are free, the logs are full: %v: %v = %v", free, full, c, e)
				}
			}
		}
	}
	if want := map[string]int{"make": 1, "link": 1, "unlink": 1, "rmdir": 1, "move": 2}; !reflect.DeepEqual(most, want) {
		t.Errorf("the most pages were %v; want %v", most, want)
	}
}

// TestR10Refused: what is refused for another reason is so where no page is free.
func TestR10Refused(t *testing.T) {
	d, v := crowded(t, 0, true)
	for _, c := range []asked{
		{call{"make", 1, "f", 1, ""}, api.ErrExist}, {call{"link", 1, "new", 2, ""}, api.ErrIsDir}, {call{"unlink", 1, "q", 0, ""}, api.ErrNoEnt}, {call{"rmdir", 1, "d", 0, ""}, api.ErrNotEmpty},
		{call{"move", 1, "d", 2, "new"}, api.ErrBelow}, {call{"move", 1, "f", 2, "r"}, api.OK}, {call{"move", 1, "e", 1, "d"}, api.ErrNotEmpty},
	} {
		refuses(t, c.String(), d, v, c.want, func() api.Errno { _, e := c.on(v); return e })
	}
}

// TestT7Alive: what is taken away comes back.
func TestT7Alive(t *testing.T) {
	for _, s := range []api.Super{small, middling, tight, large} {
		_, v := fresh(t, s)
		for round := range 3 {
			makes(t, v, 1, "d", api.KindDir)
			makes(t, v, 2, "s", api.KindDir)
			makes(t, v, 3, "f", api.KindFile)
			writes(t, v, 4, 100, "some bytes")
			links(t, v, 1, fmt.Sprint("g", round), 4)
			movesTo(t, v, 2, "s", 1, "s")
			unlinks(t, v, 3, "f")
			rmdirs(t, v, 1, "s")
			movesTo(t, v, 1, fmt.Sprint("g", round), 2, "last")
			unlinks(t, v, 2, "last")
			rmdirs(t, v, 1, "d")
			st := v.State()
			if len(st.Nodes) != 1 || len(st.Nodes[0].Names) != 0 || v.FreeInodes() != s.Inodes-1 || v.FreePages() != s.Pages-st.Shape.Data-len(st.Nodes[0].Log) {
				t.Errorf("%v, round %d: %+v", s, round, st)
			}
		}
	}
}

// overdue: a volume in which a call on the directories 2 and 3 makes their logs due, and that of the file 4 (g in both directories) is due already: no page was free when it became so.
func overdue(t *testing.T) *pmem.Device {
	t.Helper()
	d, v := fresh(t, api.Super{Pages: 60, Inodes: 8, Cores: 1})
	makes(t, v, 1, "d", api.KindDir)
	makes(t, v, 1, "t", api.KindDir)
	makes(t, v, 2, "g", api.KindFile)
	makes(t, v, 1, "hog", api.KindFile)
	links(t, v, 3, "g", 4)
	says := func(ino, size int) {
		does(t, v, api.Edit{Ino: ino, Entries: []api.Entry{{Kind: api.EntSize, Size: size}}})
	}
	for k := range 13 {
		says(4, 100+k)
	}
	for _, dir := range []int{2, 3} {
		for range 5 {
			links(t, v, dir, "x", 5)
			unlinks(t, v, dir, "x")
		}
		links(t, v, dir, "x", 5)
		links(t, v, dir, "y", 5)
	}
	for p := 0; v.FreePages() > 0; p++ {
		does(t, v, api.Edit{Ino: 5, Fills: []api.Fill{{Off: p, Data: make([]byte, 512)}}, Size: 512 * (p + 1)})
	}
	says(4, 50)
	says(5, 0)
	for ino, entries := range map[int]int{2: 13, 3: 13, 4: 14} {
		if n := node(t, v, ino); n.Entries != entries || gc.Due(n) != (ino == 4) || v.FreePages() < 10 {
			t.Fatalf("%d pages are free: %+v", v.FreePages(), n)
		}
	}
	return d
}

// TestP17Collected: the edits stand in the order of the chapter: the logs that are due are collected in it, each into the lowest pages.
func TestP17Collected(t *testing.T) {
	image := overdue(t).View()
	for _, c := range []call{
		{"link", 2, "new", 4, ""}, {"link", 3, "new", 4, ""}, {"unlink", 2, "g", 0, ""}, {"unlink", 3, "g", 0, ""},
		{"move", 2, "x", 2, "g"}, {"move", 2, "x", 3, "g"}, {"move", 3, "y", 2, "g"}, {"move", 3, "g", 2, "new"}, {"make", 2, "new", 1, ""},
	} {
		d := load(t, image)
		v := mounts(t, d)
		if _, e := c.beside(t, d, v, twinOf(t, d)); e != api.OK {
			t.Fatalf("%v = %v", c, e)
		}
		if n := node(t, v, c.dir); n.Entries > 5 {
			t.Errorf("%v: the directory's log wasn't collected: %+v", c, n)
		}
		if n := node(t, v, 4); n.Entries > 1 && c.op != "make" && c.name != "g" || n.Entries > 1 && c.op == "unlink" {
			t.Errorf("%v: the file's log wasn't collected: %+v", c, n)
		}
	}
}
