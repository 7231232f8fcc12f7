package files_test

import (
	"math/rand"
	"testing"

	"furrow/api"
	"furrow/files"
	"furrow/pmem"
	"furrow/volume"
)

// crashes: what a loss of power may leave of the device: the two ends, and some that are drawn.
func crashes(r *rand.Rand, d *pmem.Device, many int) [][]byte {
	list := [][]byte{d.Crash(nil), d.View()}
	choices := make([]int, len(d.Doubts()))
	for len(choices) > 0 && len(list) < many {
		for k := range choices {
			choices[k] = r.Int()
		}
		list = append(list, d.Crash(choices))
	}
	return list
}

// file: what there is to know of a file beside where it stands.
type file struct {
	bytes string
	pages string
}

func fileAt(t *testing.T, v *volume.Volume, ino int) file {
	t.Helper()
	s, e := files.Whole(v, ino)
	if e != api.OK {
		t.Fatal("Whole", e)
	}
	pages := make([]byte, 512)
	for _, p := range mapped(node(t, v, ino)) {
		pages[p] = 1
	}
	return file{s, string(pages)}
}

// cutAnywhere: a call on file 2 is cut at every so many steps; what is left is the file as it was, or as it is behind the call, wholly.
func cutAnywhere(t *testing.T, stride int, make func() (*pmem.Device, *volume.Volume), call func(v *volume.Volume) api.Errno) {
	t.Helper()
	r := chance()
	first, v := make()
	was, steps := fileAt(t, v, 2), first.Steps()
	other := fileAt(t, v, 3)
	if e := call(v); e != api.OK {
		t.Fatal("the whole call:", e)
	}
	now, all := fileAt(t, v, 2), first.Steps()-steps
	seen := [2]int{}
	for n := all % stride; n <= all; n += stride { // the last one: none is cut
		d, v := make()
		d.Arm(n)
		e := call(v)
		if e != api.OK && e != api.ErrDead || (e == api.OK) != (n == all) {
			t.Fatalf("cut after %d steps of %d: %v", n, all, e)
		}
		if e == api.ErrDead {
			closed(t, "behind ErrDead", v)
		}
		for _, image := range crashes(r, d, 6) {
			w := mounts(t, load(t, image))
			switch got := fileAt(t, w, 2); {
			case got == now:
				seen[1]++
			case got == was && e == api.ErrDead:
				seen[0]++
			default:
				t.Fatalf("cut after %d steps of %d (%v): %d bytes; they were %d, they would be %d", n, all, e, len(got.bytes), len(was.bytes), len(now.bytes))
			}
			if fileAt(t, w, 3) != other {
				t.Fatalf("cut after %d steps of %d: another file changed", n, all)
			}
		}
	}
	if seen[0] == 0 || seen[1] == 0 {
		t.Errorf("both were to be seen: %v", seen)
	}
}

// TestT2Cut: writes and cuts of a file, and those behind which its log is collected.
func TestT2Cut(t *testing.T) {
	short := func() (*pmem.Device, *volume.Volume) {
		d, v := fresh(t, small, 2)
		writes(t, v, 2, 300, "before, and so long that it goes on")
		writes(t, v, 2, 1500, noise(chance(), 100))
		writes(t, v, 3, 0, "other")
		return d, v
	}
	busy := func() (*pmem.Device, *volume.Volume) {
		d, v := short()
		for k := range 11 {
			writes(t, v, 2, 512*(k%2), noise(chance(), 50))
		}
		if n := node(t, v, 2); n.Entries != 13 {
			t.Fatalf("%+v", n)
		}
		return d, v
	}
	cutAnywhere(t, 1, short, func(v *volume.Volume) api.Errno { return files.Write(v, 2, 310, "now") })
	cutAnywhere(t, 7, short, func(v *volume.Volume) api.Errno { return files.Write(v, 2, 400, noise(chance(), 3000)) })
	cutAnywhere(t, 1, short, func(v *volume.Volume) api.Errno { return files.Truncate(v, 2, 320) })
	cutAnywhere(t, 1, short, func(v *volume.Volume) api.Errno { return files.Truncate(v, 2, 512) })
	cutAnywhere(t, 1, short, func(v *volume.Volume) api.Errno { return files.Truncate(v, 2, 9000) })
	cutAnywhere(t, 3, busy, func(v *volume.Volume) api.Errno { return files.Write(v, 2, 600, "now") })
	cutAnywhere(t, 3, busy, func(v *volume.Volume) api.Errno { return files.Truncate(v, 2, 1) })
}

// TestR9Dead: a dead device refuses what changes something; what is only read is there till then.
func TestR9Dead(t *testing.T) {
	d, v := fresh(t, small, 1)
	writes(t, v, 2, 0, "abc")
	d.Arm(0)
	reads(t, v, 2, 0, 9, "abc")
	writes(t, v, 2, 0, "")
	truncates(t, v, 2, 3)
	if e := files.Write(v, 2, -1, ""); e != api.ErrOffset {
		t.Error("a write that is refused:", e)
	}
	if e := files.Truncate(v, 2, 4); e != api.ErrDead {
		t.Error("Truncate:", e)
	}
	closed(t, "R9", v)
	d, v = fresh(t, small, 1)
	d.Arm(3)
	if e := files.Write(v, 2, 0, "abc"); e != api.ErrDead {
		t.Error("Write:", e)
	}
	closed(t, "R9", v)
}

// TestClosed: an unmounted volume says so ahead of all else.
func TestClosed(t *testing.T) {
	d, v := fresh(t, small, 1)
	writes(t, v, 2, 0, "abc")
	if e := v.Unmount(); e != api.OK {
		t.Fatal("Unmount", e)
	}
	view := string(d.View())
	closed(t, "unmounted", v)
	if string(d.View()) != view {
		t.Error("a call of a closed volume changed the device")
	}
	is(t, mounts(t, d), 2, "abc", 0)
}
