package tree_test

import (
	"strconv"
	"strings"
	"testing"

	"furrow/api"
	"furrow/tree"
)

// asked: one call and what it must answer.
type asked struct {
	call
	want api.Errno
}

// allRefused: each of the calls, on the same volume, which stays as it is.
func allRefused(t *testing.T, list []asked) {
	t.Helper()
	d, v := furnished(t)
	for _, c := range list {
		refuses(t, c.String(), d, v, c.want, func() api.Errno {
			n, e := c.on(v)
			if n != 0 {
				t.Errorf("%v = %d, %v", c.call, n, e)
			}
			return e
		})
	}
}

// TestP17_1Order: of two errors that both apply the one that stands first.
func TestP17_1Order(t *testing.T) {
	allRefused(t, []asked{
		{call{"make", 12, "", 0, ""}, api.ErrEdit}, {call{"make", 3, "", 3, ""}, api.ErrEdit}, {call{"make", 1, "", -1, ""}, api.ErrEdit}, {call{"make", 1, "a", 7, ""}, api.ErrEdit}, {call{"make", 1, "new", 0, ""}, api.ErrEdit},
		{call{"make", 12, "", 1, ""}, api.ErrNoFile}, {call{"make", 0, "a", 2, ""}, api.ErrNoFile}, {call{"make", 17, "new", 2, ""}, api.ErrNoFile},
		{call{"make", 3, "", 1, ""}, api.ErrNotDir}, {call{"make", 3, "new", 2, ""}, api.ErrNotDir},
		{call{"make", 1, "", 1, ""}, api.ErrBadName}, {call{"make", 2, "g/", 1, ""}, api.ErrBadName},
		{call{"make", 1, "a", 1, ""}, api.ErrExist}, {call{"make", 1, "f", 2, ""}, api.ErrExist}, {call{"make", 2, "h", 1, ""}, api.ErrExist},
	})
}

func TestP17_2Order(t *testing.T) {
	allRefused(t, []asked{
		{call{"link", 12, "", 13, ""}, api.ErrNoFile}, {call{"link", 12, "new", 3, ""}, api.ErrNoFile},
		{call{"link", 3, "", 13, ""}, api.ErrNotDir}, {call{"link", 5, "new", 2, ""}, api.ErrNotDir}, {call{"link", 3, "f", 3, ""}, api.ErrNotDir},
		{call{"link", 1, "", 13, ""}, api.ErrBadName}, {call{"link", 1, "..", 2, ""}, api.ErrBadName}, {call{"link", 2, ".", 3, ""}, api.ErrBadName},
		{call{"link", 1, "a", 13, ""}, api.ErrNoFile}, {call{"link", 1, "new", 0, ""}, api.ErrNoFile},
		{call{"link", 1, "a", 2, ""}, api.ErrIsDir}, {call{"link", 2, "new", 1, ""}, api.ErrIsDir}, {call{"link", 4, "new", 4, ""}, api.ErrIsDir},
		{call{"link", 1, "a", 3, ""}, api.ErrExist}, {call{"link", 1, "f", 5, ""}, api.ErrExist}, {call{"link", 2, "g", 5, ""}, api.ErrExist},
	})
}

func TestP17_3Order(t *testing.T) {
	allRefused(t, []asked{
		{call{"unlink", 12, "", 0, ""}, api.ErrNoFile}, {call{"unlink", -1, "f", 0, ""}, api.ErrNoFile},
		{call{"unlink", 3, "", 0, ""}, api.ErrNotDir}, {call{"unlink", 3, "f", 0, ""}, api.ErrNotDir},
		{call{"unlink", 1, "", 0, ""}, api.ErrNoEnt}, {call{"unlink", 1, "..", 0, ""}, api.ErrNoEnt}, {call{"unlink", 1, "g", 0, ""}, api.ErrNoEnt}, {call{"unlink", 4, "f", 0, ""}, api.ErrNoEnt}, {call{"unlink", 1, "a/g", 0, ""}, api.ErrNoEnt},
		{call{"unlink", 1, "a", 0, ""}, api.ErrIsDir}, {call{"unlink", 1, "e", 0, ""}, api.ErrIsDir},
	})
}

func TestP17_4Order(t *testing.T) {
	allRefused(t, []asked{
		{call{"rmdir", 12, "", 0, ""}, api.ErrNoFile}, {call{"rmdir", 0, "a", 0, ""}, api.ErrNoFile},
		{call{"rmdir", 3, "", 0, ""}, api.ErrNotDir}, {call{"rmdir", 8, "a", 0, ""}, api.ErrNotDir},
		{call{"rmdir", 1, "", 0, ""}, api.ErrNoEnt}, {call{"rmdir", 1, ".", 0, ""}, api.ErrNoEnt}, {call{"rmdir", 2, "e", 0, ""}, api.ErrNoEnt}, {call{"rmdir", 1, "/", 0, ""}, api.ErrNoEnt},
		{call{"rmdir", 1, "f", 0, ""}, api.ErrNotDir}, {call{"rmdir", 9, "k", 0, ""}, api.ErrNotDir},
		{call{"rmdir", 1, "a", 0, ""}, api.ErrNotEmpty}, {call{"rmdir", 2, "s", 0, ""}, api.ErrNotEmpty},
	})
}

func TestP17_5Order(t *testing.T) {
	allRefused(t, []asked{
		{call{"move", 12, "", 3, ""}, api.ErrNoFile}, {call{"move", 12, "a", 1, "new"}, api.ErrNoFile},
		{call{"move", 3, "", 12, ""}, api.ErrNotDir}, {call{"move", 3, "f", 1, "f"}, api.ErrNotDir},
		{call{"move", 1, "q", 12, ""}, api.ErrNoFile}, {call{"move", 1, "f", 0, "f"}, api.ErrNoFile},
		{call{"move", 1, "q", 3, ""}, api.ErrNotDir}, {call{"move", 1, "a", 8, "a"}, api.ErrNotDir},
		{call{"move", 1, "q", 1, ""}, api.ErrBadName}, {call{"move", 1, "a", 2, ".."}, api.ErrBadName}, {call{"move", 1, "a", 1, "a/"}, api.ErrBadName},
		{call{"move", 1, "q", 1, "a"}, api.ErrNoEnt}, {call{"move", 1, "", 1, "new"}, api.ErrNoEnt}, {call{"move", 1, "..", 2, "new"}, api.ErrNoEnt}, {call{"move", 1, "g", 2, "g"}, api.ErrNoEnt}, {call{"move", 1, "q", 1, "q"}, api.ErrNoEnt},
		{call{"move", 1, "a", 1, "a"}, api.OK}, {call{"move", 1, "e", 1, "e"}, api.OK}, {call{"move", 2, "g", 2, "g"}, api.OK}, {call{"move", 1, "f", 2, "h"}, api.OK}, {call{"move", 2, "h", 1, "f"}, api.OK}, {call{"move", 9, "k", 7, "u"}, api.OK},
		{call{"move", 1, "a", 2, "new"}, api.ErrBelow}, {call{"move", 1, "a", 2, "g"}, api.ErrBelow}, {call{"move", 1, "a", 2, "s"}, api.ErrBelow}, {call{"move", 1, "a", 6, "new"}, api.ErrBelow}, {call{"move", 1, "a", 7, "u"}, api.ErrBelow}, {call{"move", 2, "s", 7, "new"}, api.ErrBelow}, {call{"move", 1, "e", 4, "new"}, api.ErrBelow},
		{call{"move", 1, "a", 1, "f"}, api.ErrNotDir}, {call{"move", 1, "e", 2, "h"}, api.ErrNotDir}, {call{"move", 2, "s", 1, "f"}, api.ErrNotDir},
		{call{"move", 1, "f", 1, "a"}, api.ErrIsDir}, {call{"move", 1, "f", 1, "e"}, api.ErrIsDir}, {call{"move", 2, "g", 1, "a"}, api.ErrIsDir}, {call{"move", 7, "u", 6, "t"}, api.ErrIsDir},
		{call{"move", 1, "e", 1, "a"}, api.ErrNotEmpty}, {call{"move", 1, "e", 2, "s"}, api.ErrNotEmpty}, {call{"move", 2, "s", 1, "a"}, api.ErrNotEmpty}, {call{"move", 6, "t", 1, "a"}, api.ErrNotEmpty},
	})
}

// TestP17_1Names: each text that is no name, and the greatest that is one.
func TestP17_1Names(t *testing.T) {
	d, v := furnished(t)
	for _, name := range badNames {
		for _, c := range []call{{"make", 1, name, 1, ""}, {"make", 1, name, 2, ""}, {"link", 1, name, 3, ""}, {"move", 1, "f", 1, name}, {"move", 1, "a", 4, name}} {
			refuses(t, c.String(), d, v, api.ErrBadName, func() api.Errno { _, e := c.on(v); return e })
		}
		for _, c := range []call{{"unlink", 1, name, 0, ""}, {"rmdir", 1, name, 0, ""}, {"move", 1, name, 1, "new"}} {
			refuses(t, c.String(), d, v, api.ErrNoEnt, func() api.Errno { _, e := c.on(v); return e })
		}
	}
	for i, name := range []string{strings.Repeat("n", 28), "...", " ", "\xff", "\n", "..a", "a.", "A"} {
		if n := makes(t, v, 4, name, api.KindFile); n != 10 {
			t.Errorf("the number of %q is %d", name, n)
		}
		links(t, v, 4, name[:len(name)-1]+"z", 10)
		movesTo(t, v, 4, name, 1, name)
		movesTo(t, v, 1, name, 1, "moved"+strconv.Itoa(i))
		unlinks(t, v, 1, "moved"+strconv.Itoa(i))
		unlinks(t, v, 4, name[:len(name)-1]+"z")
	}
}

// allCalls: all calls of some numbers and texts.
func allCalls() []call {
	dirs := append([]int{1, 2, 3, 4, 5, 6, 7, 8, 9, 10, 16, 17}, wild...)
	names := []string{"a", "f", "e", "d", "g", "h", "s", "t", "u", "k", "new", "", ".", "..", "a/b", "a\x00", strings.Repeat("n", 28), strings.Repeat("n", 29)}
	var list []call
	for _, dir := range dirs {
		for _, name := range names {
			list = append(list, call{"unlink", dir, name, 0, ""}, call{"rmdir", dir, name, 0, ""})
			for _, kind := range []int{1, 2, 0, 3, -1, 257, 1<<32 + 1} {
				list = append(list, call{"make", dir, name, kind, ""})
			}
			for _, ino := range dirs {
				list = append(list, call{"link", dir, name, ino, ""})
			}
		}
	}
	for _, dir := range []int{0, 1, 2, 3, 4, 6, 7, 9, 10} {
		for _, name := range names[:13] {
			for _, todir := range []int{17, 1, 2, 4, 5, 6, 7, 9, 12} {
				for _, toname := range names[:13] {
					list = append(list, call{"move", dir, name, todir, toname})
				}
			}
		}
	}
	return list
}

// TestP17AllCalls: many thousand calls, all of one furnished volume, held against the chapter's words.
func TestP17AllCalls(t *testing.T) {
	first, _ := furnished(t)
	image := first.View()
	d := load(t, image)
	v, w := mounts(t, d), twinOf(t, d)
	seen := map[string]int{}
	for _, c := range allCalls() {
		steps := d.Steps()
		_, e := c.beside(t, d, v, w)
		seen[c.op+" "+e.Error()]++
		if d.Steps() != steps {
			d = load(t, image)
			v, w = mounts(t, d), twinOf(t, d)
		}
	}
	for _, what := range []string{
		"make E0", "make E151", "make E164", "make E144", "make E174", "make E170",
		"link E0", "link E164", "link E144", "link E174", "link E160", "link E170",
		"unlink E0", "unlink E164", "unlink E144", "unlink E143", "unlink E160",
		"rmdir E0", "rmdir E164", "rmdir E144", "rmdir E143", "rmdir E171",
		"move E0", "move E164", "move E144", "move E174", "move E143", "move E173", "move E160", "move E171",
	} {
		if seen[what] == 0 {
			t.Errorf("no call answered %q", what)
		}
	}
}

// TestClosed: an unmounted volume says so ahead of all else, and so does one whose device is dead.
func TestClosed(t *testing.T) {
	d, v := furnished(t)
	if e := v.Unmount(); e != api.OK {
		t.Fatal("Unmount", e)
	}
	view, steps := string(d.View()), d.Steps()
	closed(t, "unmounted", v)
	if string(d.View()) != view || d.Steps() != steps {
		t.Error("a call of a closed volume changed the device")
	}
	for _, c := range []call{{"make", 1, "new", 1, ""}, {"link", 1, "new", 3, ""}, {"unlink", 1, "f", 0, ""}, {"rmdir", 1, "e", 0, ""}, {"move", 1, "e", 2, "new"}} {
		d, v := furnished(t)
		d.Arm(0)
		stats(t, v, api.Stat{Ino: 4, Kind: api.KindDir, Links: 1}) // what is only read is there till a step is refused
		if l := walked(t, v); len(l) != 11 {
			t.Errorf("%d items", len(l))
		}
		if e := tree.Move(v, 1, "f", 2, "h"); e != api.OK {
			t.Error("a move that does nothing, on a dead device:", e)
		}
		if _, e := tree.Make(v, 1, "f", api.KindFile); e != api.ErrExist {
			t.Error("a call that is refused, on a dead device:", e)
		}
		if n, e := c.on(v); n != 0 || e != api.ErrDead {
			t.Errorf("%v on a dead device = %d, %v", c, n, e)
		}
		closed(t, "dead", v)
	}
}
