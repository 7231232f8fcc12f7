package archive_test

import (
	"bytes"
	"strings"
	"testing"

	"furrow/api"
	"furrow/archive"
)

// Example 1: no members.
func TestP21Example1(t *testing.T) {
	b := made(t, nil)
	if len(b) != 64 || string(b[:8]) != "FURROWAR" || !bytes.Equal(b[8:60], make([]byte, 52)) || !bytes.Equal(b, lineOf(0)) {
		t.Errorf("Make(nil) = %q", b)
	}
	if list, e := archive.Open(b); e != api.OK || len(list) != 0 {
		t.Errorf("Open = %v, %v", list, e)
	}
	refused(t, "nil", nil)
	refused(t, "64 zeros", make([]byte, 64))
	refused(t, "one byte more", append(b, 0))
}

// Example 2: a directory, a file, a link.
func TestP21Example2(t *testing.T) {
	b := made(t, example())
	if len(b) != 664 {
		t.Fatalf("%d bytes", len(b))
	}
	want := string(lineOf(3)) +
		"\x02\x00\x00\x00\x01\x00\x00\x00\x00\x00\x00\x00\x00\x00\x00\x00\x00\x00\x00\x00d" + string(b[85:89]) +
		"\x01\x00\x00\x00\x03\x00\x00\x00\x00\x00\x00\x00\x58\x02\x00\x00\x01\x00\x00\x00d/f\x00\x00\x00\x00\x00\x02\x00\x00" + page("x") + string(b[632:636]) +
		"\x03\x00\x00\x00\x01\x00\x00\x00\x03\x00\x00\x00\x00\x00\x00\x00\x00\x00\x00\x00gd/f" + string(b[660:])
	if string(b) != want {
		t.Errorf("Make = %q", b)
	}
	for _, sum := range [][3]int{{64, 85, 89}, {89, 632, 636}, {636, 660, 664}} {
		if got := b[sum[0]:sum[2]]; !bytes.Equal(got, summed(b[sum[0]:sum[1]])) {
			t.Errorf("the sum of the bytes %d to %d is %x", sum[0], sum[1]-1, b[sum[1]:sum[2]])
		}
	}
}

// Example 3: what is no good list.
func TestP21Example3(t *testing.T) {
	x, d := page("x"), dir("d")
	for what, list := range map[string][]api.Member{
		"no path": {dir("")}, "slash ahead": {dir("/d")}, "slash behind": {dir("d/")}, "two slashes": {d, file("d//f", 0)},
		"point": {dir(".")}, "the way up": {dir("a"), dir("b"), file("a/../b", 0)}, "29 bytes": {dir(strings.Repeat("n", 29))},
		"no directory ahead": {file("d/f", 0)}, "behind a file": {file("d", 0), file("d/f", 0)},
		"order": {dir("b"), dir("a")}, "twice": {dir("a"), dir("a")}, "a.b ahead of a/z": {dir("a"), file("a.b", 0), file("a/z", 0)},
		"512 bytes": {file("a", 600, piece(512, x))}, "88 zeros": {file("a", 600, piece(512, strings.Repeat("\x00", 88)))},
		"no multiple": {file("a", 600, piece(100, x))}, "behind the end": {file("a", 600, piece(1024, x))},
		"falling": {file("a", 600, piece(512, strings.Repeat("x", 88)), piece(0, x))}, "sized": {{Kind: api.KindDir, Path: "d", Size: 1}},
		"link to nothing": {file("a", 0), link("b", "h")}, "link to a directory": {d, link("e", "d")}, "link to a later file": {link("a", "b"), file("b", 0)},
		"link to a link": {file("a", 0), link("b", "a"), link("c", "b")}, "kind 0": {{Path: "a"}}, "kind 4": {{Kind: 4, Path: "a"}},
	} {
		if judged(t, list) {
			t.Errorf("%s: the test's own judge takes it", what)
		}
	}
	for what, list := range map[string][]api.Member{
		"88 bytes": {file("a", 600, piece(512, strings.Repeat("x", 88)))}, "rising": {file("a", 600, piece(0, x), piece(512, strings.Repeat("x", 88)))},
		"a/z ahead of a.b": {dir("a"), file("a/z", 0), file("a.b", 0)}, "28 bytes": {dir(strings.Repeat("n", 28))},
	} {
		if !judged(t, list) {
			t.Errorf("%s: the test's own judge refuses it", what)
		}
	}
}

// Examples 4 and 5: a file system packed.
func TestP21Examples4And5(t *testing.T) {
	_, f := fresh(t, small)
	if b := packed(t, f); !bytes.Equal(b, made(t, nil)) {
		t.Errorf("Pack = %q", b)
	}
	did(t, f.Mkdir("/d"), f.Create("/d/f"), f.Write("/d/f", 0, "x"), f.Truncate("/d/f", 600), f.Link("/d/f", "/g"))
	if b := packed(t, f); !bytes.Equal(b, made(t, example())) {
		t.Errorf("Pack = %q", b)
	}
	did(t, f.Truncate("/d/f", 0))
	if b := packed(t, f); !bytes.Equal(b, bytesOf([]api.Member{dir("d"), file("d/f", 0), link("g", "d/f")})) {
		t.Errorf("Pack = %q", b)
	}
}

// Example 6: an archive unpacked, and what Unpack refuses.
func TestP21Example6(t *testing.T) {
	_, f := fresh(t, small)
	b := made(t, example())
	unpacked(t, f, "/", b)
	if s, err := f.Stat("/g"); err != nil || s.Size != 600 || s.Links != 2 || s.Pages != 1 {
		t.Errorf("Stat = %+v, %v", s, err)
	}
	unpackTells(t, f, "/", b, 0, "/d", api.ErrExist)
	unpacked(t, f, "/d/", b)
	for _, path := range []string{"/d/d", "/d/d/f", "/d/g"} {
		if _, err := f.Stat(path); err != nil {
			t.Error(err)
		}
	}
	unpackTells(t, f, "/d/f", b, 0, "/d/f", api.ErrNotDir)
	unpackTells(t, f, "/q", nil, 0, "/q", api.ErrNoEnt)
	unpackTells(t, f, "/", nil, 0, "/", api.ErrArchive)
}

// Example 7: one of the names is there already.
func TestP21Example7(t *testing.T) {
	_, f := fresh(t, small)
	did(t, f.Create("/g"))
	unpackTells(t, f, "/", made(t, example()), 2, "/g", api.ErrExist)
	if s, err := f.Stat("/d/f"); err != nil || s.Size != 600 || s.Links != 1 {
		t.Errorf("Stat = %+v, %v", s, err)
	}
}
