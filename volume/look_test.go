package volume_test

import (
	"bytes"
	"reflect"
	"slices"
	"testing"

	"furrow/api"
	"furrow/pmem"
	"furrow/volume"
)

// tells: whether all that a volume tells is what its state, which is what the bytes mean, says.
func tells(t *testing.T, d *pmem.Device, v *volume.Volume) {
	t.Helper()
	holds(t, "P15.4", d, v)
	st := v.State()
	numbers := slices.Clone(wild)
	for ino := -2; ino <= st.Shape.Inodes+2; ino++ {
		numbers = append(numbers, ino)
	}
	for _, ino := range numbers {
		want := nodeOf(st, ino)
		no := api.OK
		if want.Kind == 0 || ino < 1 {
			want, no = api.Node{}, api.ErrNoFile
		}
		if n, e := v.Node(ino); e != no || !reflect.DeepEqual(plain(n), plain(want)) {
			t.Errorf("Node(%d) = %+v, %v; want %+v, %v", ino, n, e, want, no)
		}
		if l := v.Names(ino); !slices.Equal(l, want.Names) {
			t.Errorf("Names(%d) = %v; want %v", ino, l, want.Names)
		}
		tellsNames(t, v, st, ino, want)
		tellsPages(t, d, v, ino, want)
	}
	free := freeInos(st)
	ino, e := v.NewInode()
	if v.FreeInodes() != len(free) || v.FreePages() != countOf(st.Free) || len(free) > 0 && (ino != free[0] || e != api.OK) || len(free) == 0 && (ino != 0 || e != api.ErrNoInodes) {
		t.Errorf("FreeInodes %d, FreePages %d, NewInode %d, %v; free are %v, %v", v.FreeInodes(), v.FreePages(), ino, e, free, st.Free)
	}
}

func tellsNames(t *testing.T, v *volume.Volume, st api.State, ino int, n api.Node) {
	t.Helper()
	for _, d := range n.Names {
		for _, name := range []string{d.Name, d.Name + "x", d.Name[1:], "\x00" + d.Name} {
			want := 0
			for _, d := range n.Names {
				if d.Name == name {
					want = d.Ino
				}
			}
			if i, sub := v.Look(ino, name); i != want || sub != (nodeOf(st, want).Kind == api.KindDir) {
				t.Errorf("Look(%d, %q) = %d, %v; want %d", ino, name, i, sub, want)
			}
		}
	}
	for _, name := range []string{"", ".", "..", "/", "no such name", string(make([]byte, 300))} {
		if i, sub := v.Look(ino, name); i != 0 || sub {
			t.Errorf("Look(%d, %q) = %d, %v", ino, name, i, sub)
		}
	}
}

func tellsPages(t *testing.T, d *pmem.Device, v *volume.Volume, ino int, n api.Node) {
	t.Helper()
	view := d.View()
	offs := append([]int{0, 1, 2, 3, 4, 5, 6, 7, 20, 510, 511}, wild...)
	for _, r := range n.Map {
		offs = append(offs, r.Off-1, r.Off, r.Off+r.Count-1, r.Off+r.Count)
	}
	for _, off := range offs {
		want, no := make([]byte, 512), api.OK
		switch {
		case n.Kind == 0:
			want, no = nil, api.ErrNoFile
		case n.Kind == api.KindDir:
			want, no = nil, api.ErrIsDir
		case off < 0 || off > 511:
			want, no = nil, api.ErrOff
		}
		for _, r := range n.Map {
			if no == api.OK && r.Off <= off && off < r.Off+r.Count {
				want = view[512*(r.Page+off-r.Off):][:512]
			}
		}
		if b, e := v.Page(ino, off); e != no || !bytes.Equal(b, want) || (b == nil) != (want == nil) {
			t.Errorf("Page(%d, %d): %v; want %v", ino, off, e, no)
		}
	}
}

func TestP15_4Looking(t *testing.T) {
	r := chance()
	for _, s := range []api.Super{small, middling, tight} {
		d, v := fresh(t, s)
		tells(t, d, v)
		for range 12 {
			for range 10 {
				v.Do(drawnEdits(r, v.State()))
			}
			still(t, "P15.4", d, func() { tells(t, d, v) })
		}
	}
	d, v := worked(t, r, large, 50)
	tells(t, d, v)
}

// TestP15_4Kinds: Look tells a directory from a file.
func TestP15_4Kinds(t *testing.T) {
	_, v := fresh(t, small)
	does(t, v, api.OK, says(1, add("f", 3), add("d", 5)), newFile(3), newDir(5))
	for name, want := range map[string]int{"f": 3, "d": 5, "x": 0, "": 0} {
		if ino, sub := v.Look(1, name); ino != want || sub != (name == "d") {
			t.Errorf("Look(1, %q) = %d, %v", name, ino, sub)
		}
	}
	for _, dir := range []int{0, 2, 3, 5, 8, 9, -1} {
		if ino, sub := v.Look(dir, "f"); ino != 0 || sub || len(v.Names(dir)) > 0 {
			t.Errorf("Look(%d, f) = %d, %v; Names %v", dir, ino, sub, v.Names(dir))
		}
	}
}

// TestP15_5Bytes: what is behind a file's end in its last page, or in a page that stands there, is told as the device has it; what is cut is a hole.
func TestP15_5Bytes(t *testing.T) {
	_, v := example(t, 2)
	isPage(t, v, 2, 0, 0, api.OK) // no page at all
	does(t, v, api.OK, writes(2, 1030, fills('a', 0, 2)...))
	isPage(t, v, 2, 1, 0, api.OK)
	isPage(t, v, 2, 2, 'b', api.OK)
	isPage(t, v, 2, 3, 0, api.OK)
	does(t, v, api.OK, says(2, size(1025)))
	isPage(t, v, 2, 2, 'b', api.OK)
	does(t, v, api.OK, says(2, size(1024), size(1536)))
	isPage(t, v, 2, 2, 0, api.OK)
	isPage(t, v, 2, 0, 'a', api.OK)
	does(t, v, api.OK, writes(2, 262144, fills('q', 511)...))
	isPage(t, v, 2, 511, 'q', api.OK)
	isPage(t, v, 2, 510, 0, api.OK)
}

// TestP15_6Inodes: the least number that is free, which stays free; none, when all are in use.
func TestP15_6Inodes(t *testing.T) {
	_, v := fresh(t, small)
	for want := 2; want <= 8; want++ {
		for range 2 {
			if ino, e := v.NewInode(); ino != want || e != api.OK || v.FreeInodes() != 9-want {
				t.Fatalf("NewInode = %d, %v; %d are free", ino, e, v.FreeInodes())
			}
		}
		does(t, v, api.OK, says(1, add(string(rune('a'+want)), want)), newFile(want))
	}
	if ino, e := v.NewInode(); ino != 0 || e != api.ErrNoInodes || v.FreeInodes() != 0 {
		t.Errorf("NewInode = %d, %v; %d are free", ino, e, v.FreeInodes())
	}
	for _, gone := range []int{7, 4, 5} {
		does(t, v, api.OK, says(1, drop(string(rune('a'+gone)))), frees(gone))
	}
	if ino, e := v.NewInode(); ino != 4 || e != api.OK || v.FreeInodes() != 3 {
		t.Errorf("NewInode = %d, %v; %d are free", ino, e, v.FreeInodes())
	}
}
