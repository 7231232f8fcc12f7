package fs_test

import (
	"errors"
	"strings"
	"testing"

	"furrow/api"
	"furrow/fs"
	"furrow/pmem"
)

// step: an operation, and what it must answer.
type step struct {
	op
	want answer
}

func yes(o op) step                     { return step{o, answer{}} }
func no(o op, e api.Errno) step         { return step{o, answer{e: e}} }
func reads(o op, text string) step      { return step{o, answer{text: text}} }
func tells(o op, s api.Stat) step       { return step{o, answer{stat: s}} }
func lists(o op, list ...api.Dent) step { return step{o, answer{list: list}} }
func informs(i api.Info) step           { return step{op{name: "info"}, answer{info: i}} }
func file(ino, size, links, pages int) api.Stat {
	return api.Stat{Ino: ino, Kind: api.KindFile, Size: size, Links: links, Pages: pages}
}
func directory(ino, size int) api.Stat {
	return api.Stat{Ino: ino, Kind: api.KindDir, Size: size, Links: 1}
}

// follow: the steps, one behind the other; one that is refused does nothing to the device.
func follow(t *testing.T, d *pmem.Device, f *fs.FS, steps ...step) {
	t.Helper()
	for _, s := range steps {
		view := d.Steps()
		if got := asks(t, f, s.op); !got.is(s.want) {
			t.Errorf("%v = %+v; want %+v", s.op, got, s.want)
		}
		if s.want.e != api.OK && d.Steps() != view {
			t.Errorf("%v: it was refused, and did steps", s.op)
		}
	}
}

// TestExamples: the chapter's examples, 1 to 8, one behind the other.
func TestExamples(t *testing.T) {
	d, f := fresh(t, small)
	follow(t, d, f, // 1
		yes(mkdir("/a")), yes(create("/a/f")), no(create("/a/f"), api.ErrExist), no(create("/a/g/"), api.ErrNotDir), no(create("/x/g/"), api.ErrNotDir),
		no(create("/x/g"), api.ErrNoEnt), no(create("/"), api.ErrPathEnd), yes(mkdir("/b/")), no(mkdir("b"), api.ErrPathForm))
	follow(t, d, f, // 2
		yes(write("/a/f", 3, "hello")), reads(read("/a/f", 0, 100), "\x00\x00\x00hello"), reads(read("/a/../a/./f", 4, 2), "el"),
		no(read("/a", 0, 1), api.ErrIsDir), no(read("/a/f/", 0, 1), api.ErrNotDir), no(read("/a/q", -1, -1), api.ErrNoEnt))
	follow(t, d, f, // 3
		tells(stat("/a/f"), file(3, 8, 1, 1)), tells(stat("/"), directory(1, 2)),
		lists(readdir("/"), api.Dent{Name: "a", Ino: 2}, api.Dent{Name: "b", Ino: 4}), no(readdir("/a/f"), api.ErrNotDir))
	follow(t, d, f, // 4
		yes(link("/a/f", "/h")), no(link("/a", "/k"), api.ErrIsDir), no(link("/a/f", "/k/"), api.ErrNotDir), no(link("/a", "/k/"), api.ErrNotDir),
		no(link("/a/f", "/"), api.ErrPathEnd), no(link("/q", "x"), api.ErrPathForm))
	follow(t, d, f, // 5
		no(unlink("/a"), api.ErrIsDir), no(unlink("/h/"), api.ErrNotDir), no(rmdir("/h"), api.ErrNotDir), no(rmdir("/a/."), api.ErrPathEnd), no(rmdir("/a"), api.ErrNotEmpty))
	steps := d.Steps()
	follow(t, d, f, no(rename("/a", "/a/b"), api.ErrBelow), yes(rename("/a/f", "/h"))) // 6
	if d.Steps() != steps {
		t.Errorf("a rename of two names of one file did %d steps", d.Steps()-steps)
	}
	follow(t, d, f, no(rename("/h", "/k/"), api.ErrNotDir), yes(rename("/a/", "/c")), no(rename("/a", "/d"), api.ErrNoEnt))
	follow(t, d, f, informs(api.Info{Pages: 24, FreePages: freeOf(t, d), Inodes: 8, FreeInodes: 4})) // 7
	follow(t, d, f,                                                                                  // 8
		yes(op{name: "unmount"}), no(op{name: "unmount"}, api.ErrClosed), no(stat("/"), api.ErrClosed), no(stat(""), api.ErrClosed))
}

// TestFirstExamples: the whole's first examples (chapter 20, 1 to 4), as calls.
func TestFirstExamples(t *testing.T) {
	d, f := fresh(t, small)
	if f.Why() != api.ErrAbsent {
		t.Errorf("Why = %v", f.Why())
	}
	follow(t, d, f, informs(api.Info{Pages: 24, FreePages: 19, Inodes: 8, FreeInodes: 7}), yes(create("/a")), informs(api.Info{Pages: 24, FreePages: 18, Inodes: 8, FreeInodes: 6}),
		tells(stat("/a"), file(2, 0, 1, 0)), lists(readdir("/"), api.Dent{Name: "a", Ino: 2}),
		yes(write("/a", 3, "xyz")), tells(stat("/a"), file(2, 6, 1, 1)), reads(read("/a", 3, 10), "xyz"), yes(write("/a", 0, "q")))
	if st := replayed(t, d.View()); st.Nodes[1].Map[0] != (api.Run{Off: 0, Page: 8, Count: 1}) || len(st.Free) != 2 || st.Free[0] != (api.Span{From: 6, Count: 1}) || st.Free[1] != (api.Span{From: 9, Count: 15}) {
		t.Errorf("%+v", st)
	}
	follow(t, d, f, yes(op{name: "unmount"}), no(op{name: "unmount"}, api.ErrClosed))
	g, err := fs.Mount(d, 2, []int{1, 0, 1})
	if err != nil || g.Why() != api.OK {
		t.Fatalf("Mount: %v, %v", err, g.Why())
	}
	h := mounts(t, load(t, d.Crash(nil)))
	if h.Why() != api.ErrAbsent {
		t.Errorf("Why = %v", h.Why())
	}
	follow(t, d, h, reads(read("/a", 0, 1), "q"))
}

// TestDeadExample: chapter 20, 7.
func TestDeadExample(t *testing.T) {
	d, f := fresh(t, small)
	did(t, f, create("/a"))
	d.Arm(0)
	follow(t, d, f, no(create("/b"), api.ErrDead), no(stat("/a"), api.ErrClosed))
	g := mounts(t, load(t, d.Crash(nil)))
	follow(t, d, g, lists(readdir("/"), api.Dent{Name: "a", Ino: 2}))
}

// TestSpoiltExamples: chapter 20, 8 and 9.
func TestSpoiltExamples(t *testing.T) {
	d, _ := fresh(t, small)
	for _, c := range []struct {
		at    []int
		b     byte
		why   api.Errno
		place int
	}{{[]int{0}, 0, api.OK, 0}, {[]int{64}, 0, api.OK, 0}, {[]int{0, 64}, 0, api.ErrSuper, 0}, {[]int{2304}, 1, api.ErrSlot, 5}} {
		image := d.View()
		for _, at := range c.at {
			image[at] = c.b
		}
		f, err := fs.Mount(load(t, image), 3, nil)
		var why *api.CorruptError
		if c.why == api.OK && (f == nil || err != nil) || c.why != api.OK && (f != nil || !errors.As(err, &why) || *why != (api.CorruptError{Reason: c.why, Place: c.place})) {
			t.Errorf("%v: Mount: %v", c.at, err)
		}
	}
}

// TestBigExample: chapter 20, 10.
func TestBigExample(t *testing.T) {
	d, f := fresh(t, small)
	follow(t, d, f, yes(create("/a")), no(write("/a", 262144, "x"), api.ErrFBig), yes(write("/a", 262143, "x")), tells(stat("/a"), file(2, 262144, 1, 1)),
		reads(read("/a", 262142, 9), "\x00x"), no(truncate("/a", 262145), api.ErrFBig), yes(truncate("/a", 5)), tells(stat("/a"), file(2, 5, 1, 0)),
		no(write("/a", -1, "x"), api.ErrOffset), no(read("/a", 0, 4097), api.ErrData), no(write("/a", 0, strings.Repeat("x", 4097)), api.ErrData))
}
