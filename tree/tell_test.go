package tree_test

import (
	"hash/crc32"
	"reflect"
	"strings"
	"testing"

	"furrow/api"
	"furrow/files"
	"furrow/tree"
)

// TestP17_6Stat: files with and without holes, several names, directories, the root.
func TestP17_6Stat(t *testing.T) {
	d, v := fresh(t, middling)
	stats(t, v, api.Stat{Ino: 1, Kind: api.KindDir, Links: 1})
	makes(t, v, 1, "f", api.KindFile)
	stats(t, v, api.Stat{Ino: 2, Kind: api.KindFile, Links: 1})
	stats(t, v, api.Stat{Ino: 1, Kind: api.KindDir, Size: 1, Links: 1})
	writes(t, v, 2, 0, strings.Repeat("x", 1025))
	stats(t, v, api.Stat{Ino: 2, Kind: api.KindFile, Size: 1025, Links: 1, Pages: 3})
	writes(t, v, 2, 5000, "y")
	stats(t, v, api.Stat{Ino: 2, Kind: api.KindFile, Size: 5001, Links: 1, Pages: 4})
	writes(t, v, 2, 512, "z") // its page stands elsewhere now: three runs
	stats(t, v, api.Stat{Ino: 2, Kind: api.KindFile, Size: 5001, Links: 1, Pages: 4})
	links(t, v, 1, "g", 2)
	makes(t, v, 1, "d", api.KindDir)
	stats(t, v, api.Stat{Ino: 1, Kind: api.KindDir, Size: 3, Links: 1})
	for i := range 9 {
		links(t, v, 3, string(rune('a'+i)), 2)
	}
	stats(t, v, api.Stat{Ino: 3, Kind: api.KindDir, Size: 9, Links: 1})
	stats(t, v, api.Stat{Ino: 2, Kind: api.KindFile, Size: 5001, Links: 11, Pages: 4})
	if e := files.Truncate(v, 2, 262144); e != api.OK {
		t.Fatal("Truncate", e)
	}
	stats(t, v, api.Stat{Ino: 2, Kind: api.KindFile, Size: 262144, Links: 11, Pages: 4})
	still(t, "Stat", d, v, func() {
		for _, ino := range append([]int{4, 16, 17}, wild...) {
			if s, e := tree.Stat(v, ino); s != (api.Stat{}) || e != api.ErrNoFile {
				t.Errorf("Stat(%d) = %+v, %v", ino, s, e)
			}
		}
	})
}

// TestP17_7Order: by the names' bytes, and each directory's names ahead of the next name, whatever bytes are less than a slash.
func TestP17_7Order(t *testing.T) {
	d, v := fresh(t, middling)
	for _, name := range []string{"b", "a", "B", "a!", "\xff", "\x01", "aa", "é"} {
		makes(t, v, 1, name, api.KindFile)
	}
	unlinks(t, v, 1, "a")
	makes(t, v, 1, "a", api.KindDir) // 3
	links(t, v, 3, "z", 2)
	links(t, v, 3, "Z", 4)
	still(t, "Walk", d, v, func() {
		leads(t, v, "/ /\x01 /B /a /a/Z /a/z /a! /aa /b /é /\xff", 1, 7, 4, 3, 4, 2, 5, 8, 2, 9, 6)
	})
}

// TestP17_7Items: the stats of each item are Stat's, the sums those of all bytes; a directory has none.
func TestP17_7Items(t *testing.T) {
	d, v := furnished(t)
	writes(t, v, 8, 700, strings.Repeat("abc", 500))
	sums := map[int]uint32{
		3: crc32.ChecksumIEEE([]byte("of f")),
		5: crc32.ChecksumIEEE([]byte(strings.Repeat("\x00", 600) + "of g")),
		8: crc32.ChecksumIEEE([]byte(strings.Repeat("\x00", 700) + strings.Repeat("abc", 500))),
	}
	still(t, "Walk", d, v, func() {
		leads(t, v, "/ /a /a/g /a/h /a/s /a/s/t /a/s/t/u /d /d/k /e /f", 1, 2, 5, 3, 6, 7, 8, 9, 8, 4, 3)
		for _, i := range walked(t, v) {
			stats(t, v, i.Stat)
			if i.Sum != sums[i.Stat.Ino] {
				t.Errorf("%s: the sum is %x; want %x", i.Path, i.Sum, sums[i.Stat.Ino])
			}
		}
	})
}

// TestP17_7Empty: a fresh volume has the root alone; a file without bytes has the sum of nothing.
func TestP17_7Empty(t *testing.T) {
	_, v := fresh(t, small)
	if l := walked(t, v); len(l) != 1 || l[0] != (api.Item{Path: "/", Stat: api.Stat{Ino: 1, Kind: api.KindDir, Links: 1}}) {
		t.Errorf("Walk: %+v", l)
	}
	makes(t, v, 1, "f", api.KindFile)
	if l := walked(t, v); len(l) != 2 || l[1] != (api.Item{Path: "/f", Stat: api.Stat{Ino: 2, Kind: api.KindFile, Links: 1}}) {
		t.Errorf("Walk: %+v", l)
	}
}

// TestP17_7Foreign: bytes that stand behind a file's end are none of its own.
func TestP17_7Foreign(t *testing.T) {
	_, v := fresh(t, small)
	makes(t, v, 1, "f", api.KindFile)
	does(t, v, api.Edit{Ino: 2, Fills: []api.Fill{{Off: 1, Data: []byte(strings.Repeat("x", 512))}}, Size: 515})
	if l := walked(t, v); l[1].Sum != crc32.ChecksumIEEE([]byte(strings.Repeat("\x00", 512)+"xxx")) {
		t.Errorf("Walk: %+v", l)
	}
}

// TestP17_7Deep: as deep as there are inodes; paths are as long as they are.
func TestP17_7Deep(t *testing.T) {
	d, v := fresh(t, large)
	name := strings.Repeat("n", 28)
	for dir := 1; dir < 255; dir++ {
		if n := makes(t, v, dir, name, api.KindDir); n != dir+1 {
			t.Fatalf("the number is %d", n)
		}
	}
	makes(t, v, 255, "last", api.KindFile)
	l := walked(t, v)
	if len(l) != 256 || l[254].Path != strings.Repeat("/"+name, 254) || l[255].Path != l[254].Path+"/last" {
		t.Fatalf("%d items; the last path has %d bytes", len(l), len(l[len(l)-1].Path))
	}
	refuses(t, "all below itself", d, v, api.ErrBelow, func() api.Errno { return tree.Move(v, 1, name, 255, "new") })
	movesTo(t, v, 128, name, 1, "half")
	if l := walked(t, v); len(l) != 256 || l[1].Path != "/half" || l[127].Path != "/half"+strings.Repeat("/"+name, 126) {
		t.Errorf("%d items; %.80q", len(l), l[1].Path)
	}
	refuses(t, "the other half", d, v, api.ErrBelow, func() api.Errno { return tree.Move(v, 1, "half", 255, "new") })
	movesTo(t, v, 1, name, 255, "new")
	movesTo(t, v, 1, "half", 1, name)
	movesTo(t, v, 255, "new", 255, name)
	if l := walked(t, v); len(l) != 256 || l[1].Stat.Ino != 129 || l[255].Stat.Ino != 128 && l[254].Stat.Ino != 128 {
		t.Errorf("%d items", len(l))
	}
}

// TestP17_7Great: great files with many names: each is summed in no time.
func TestP17_7Great(t *testing.T) {
	_, v := fresh(t, large)
	zeros := crc32.ChecksumIEEE(make([]byte, 262144))
	for range 40 {
		f := makes(t, v, 1, "f", api.KindFile)
		if e := files.Truncate(v, f, 262144); e != api.OK {
			t.Fatal("Truncate", e)
		}
		dir := makes(t, v, 1, "d", api.KindDir)
		for i := range 30 {
			links(t, v, dir, string([]byte{byte('a' + i%26), byte('a' + i/26)}), f)
		}
		movesTo(t, v, 1, "f", dir, "f")
		movesTo(t, v, 1, "d", 1, "d"+string(rune('A'+dir/2)))
	}
	l := walked(t, v)
	if len(l) != 1+40*32 {
		t.Errorf("%d items", len(l))
	}
	for _, i := range l {
		if i.Stat.Kind == api.KindFile && (i.Sum != zeros || i.Stat.Links != 31 || i.Stat.Size != 262144) {
			t.Fatalf("%+v", i)
		}
	}
	if again := walked(t, v); !reflect.DeepEqual(l, again) {
		t.Error("a second walk tells other items")
	}
}
