package tree_test

import (
	"bytes"
	"math"
	"math/rand"
	"reflect"
	"strings"
	"testing"

	"furrow/api"
	"furrow/files"
	"furrow/pmem"
	"furrow/replay"
	"furrow/tree"
	"furrow/volume"
)

// small, middling, tight, large: from the smallest device to the largest one; tight has as few data pages as may be.
var (
	small    = api.Super{Pages: 24, Inodes: 8, Cores: 1}
	middling = api.Super{Pages: 60, Inodes: 16, Cores: 3}
	tight    = api.Super{Pages: 24, Inodes: 96, Cores: 8}
	large    = api.Super{Pages: 1024, Inodes: 256, Cores: 8}
)

// wild: numbers that no inode is.
var wild = []int{0, -1, -2, 257, 1<<31 + 1, 1<<32 + 1, 1<<32 + 2, -1<<32 + 1, 1 << 62, math.MaxInt, math.MinInt, math.MinInt + 1}

// badNames: texts that no name is.
var badNames = []string{"", ".", "..", "/", "a/b", "a\x00", "\x00", strings.Repeat("n", 29), strings.Repeat("n", 100000), "/a", "a/"}

func chance() *rand.Rand { return rand.New(rand.NewSource(17)) }

func oneOf[T any](r *rand.Rand, list []T) T { return list[r.Intn(len(list))] }

func load(t *testing.T, image []byte) *pmem.Device {
	t.Helper()
	d, e := pmem.Load(image)
	if e != api.OK {
		t.Fatal("Load", e)
	}
	return d
}

func mounts(t *testing.T, d *pmem.Device) *volume.Volume {
	t.Helper()
	v, err := volume.Mount(d, 1, nil)
	if v == nil || err != nil {
		t.Fatalf("Mount: %v", err)
	}
	return v
}

// fresh: a device and its volume, with the root alone.
func fresh(t *testing.T, s api.Super) (*pmem.Device, *volume.Volume) {
	t.Helper()
	d, e := pmem.New(512 * s.Pages)
	if e != api.OK {
		t.Fatal("New", e)
	}
	if e := volume.Format(d, s); e != api.OK {
		t.Fatalf("Format(%v) = %v", s, e)
	}
	return d, mounts(t, d)
}

// furnished: directories 2 (with g, h, s), 4 (empty), 6 (with t, below 2), 7 (with u, below 6) and 9 (with k); files 3 (f, h), 5 (g), 8 (u, k); the numbers from 10 on are free.
func furnished(t *testing.T) (*pmem.Device, *volume.Volume) {
	t.Helper()
	d, v := fresh(t, middling)
	makes(t, v, 1, "a", api.KindDir)
	makes(t, v, 1, "f", api.KindFile)
	makes(t, v, 1, "e", api.KindDir)
	makes(t, v, 2, "g", api.KindFile)
	makes(t, v, 2, "s", api.KindDir)
	makes(t, v, 6, "t", api.KindDir)
	makes(t, v, 7, "u", api.KindFile)
	makes(t, v, 1, "d", api.KindDir)
	links(t, v, 2, "h", 3)
	links(t, v, 9, "k", 8)
	writes(t, v, 3, 0, "of f")
	writes(t, v, 5, 600, "of g")
	return d, v
}

func makes(t *testing.T, v *volume.Volume, dir int, name string, kind int) int {
	t.Helper()
	n, e := tree.Make(v, dir, name, kind)
	if n == 0 || e != api.OK {
		t.Fatalf("Make(%d, %q, %d) = %d, %v", dir, name, kind, n, e)
	}
	return n
}

func links(t *testing.T, v *volume.Volume, dir int, name string, ino int) {
	t.Helper()
	if e := tree.Link(v, dir, name, ino); e != api.OK {
		t.Fatalf("Link(%d, %q, %d) = %v", dir, name, ino, e)
	}
}

func unlinks(t *testing.T, v *volume.Volume, dir int, name string) {
	t.Helper()
	if e := tree.Unlink(v, dir, name); e != api.OK {
		t.Fatalf("Unlink(%d, %q) = %v", dir, name, e)
	}
}

func rmdirs(t *testing.T, v *volume.Volume, dir int, name string) {
	t.Helper()
	if e := tree.Rmdir(v, dir, name); e != api.OK {
		t.Fatalf("Rmdir(%d, %q) = %v", dir, name, e)
	}
}

func movesTo(t *testing.T, v *volume.Volume, dir int, name string, todir int, toname string) {
	t.Helper()
	if e := tree.Move(v, dir, name, todir, toname); e != api.OK {
		t.Fatalf("Move(%d, %q, %d, %q) = %v", dir, name, todir, toname, e)
	}
}

func writes(t *testing.T, v *volume.Volume, ino, off int, data string) {
	t.Helper()
	if e := files.Write(v, ino, off, data); e != api.OK {
		t.Fatalf("Write(%d, %d, %d bytes) = %v", ino, off, len(data), e)
	}
}

func does(t *testing.T, v *volume.Volume, edits ...api.Edit) {
	t.Helper()
	if e := v.Do(edits); e != api.OK {
		t.Fatalf("Do = %v", e)
	}
}

// refuses: whether a call answers that, and has done nothing.
func refuses(t *testing.T, what string, d *pmem.Device, v *volume.Volume, want api.Errno, call func() api.Errno) {
	t.Helper()
	still(t, what, d, v, func() {
		if e := call(); e != want {
			t.Errorf("%s = %v; want %v", what, e, want)
		}
	})
}

// still: whether a call did nothing to a device and its volume.
func still(t *testing.T, what string, d *pmem.Device, v *volume.Volume, call func()) {
	t.Helper()
	st, steps, view, doubts := v.State(), d.Steps(), d.View(), d.Doubts()
	call()
	if d.Steps() != steps || !bytes.Equal(d.View(), view) || !reflect.DeepEqual(d.Doubts(), doubts) {
		t.Errorf("%s: it did %d steps", what, d.Steps()-steps)
	}
	if !reflect.DeepEqual(v.State(), st) {
		t.Errorf("%s: the state is another one", what)
	}
}

func node(t *testing.T, v *volume.Volume, ino int) api.Node {
	t.Helper()
	n, e := v.Node(ino)
	if e != api.OK {
		t.Fatalf("Node(%d) = %v", ino, e)
	}
	return n
}

func walked(t *testing.T, v *volume.Volume) []api.Item {
	t.Helper()
	l, e := tree.Walk(v)
	if e != api.OK {
		t.Fatal("Walk", e)
	}
	return l
}

// leads: whether Walk tells these paths, with these inodes.
func leads(t *testing.T, v *volume.Volume, paths string, inos ...int) {
	t.Helper()
	var got []string
	var numbers []int
	for _, i := range walked(t, v) {
		got = append(got, i.Path)
		numbers = append(numbers, i.Stat.Ino)
	}
	if strings.Join(got, " ") != paths || !reflect.DeepEqual(numbers, inos) {
		t.Errorf("Walk tells %q %v; want %q %v", got, numbers, paths, inos)
	}
}

// stats: whether Stat tells that.
func stats(t *testing.T, v *volume.Volume, want api.Stat) {
	t.Helper()
	if s, e := tree.Stat(v, want.Ino); s != want || e != api.OK {
		t.Errorf("Stat(%d) = %+v, %v; want %+v", want.Ino, s, e, want)
	}
}

// replayed: the state that bytes mean.
func replayed(t *testing.T, image []byte) api.State {
	t.Helper()
	st, err := replay.Replay(image)
	if err != nil {
		t.Fatalf("Replay: %v", err)
	}
	return st
}

// closed: whether the volume is closed, whatever is wrong beside it.
func closed(t *testing.T, what string, v *volume.Volume) {
	t.Helper()
	for _, ino := range append([]int{1, 2, 3, 4, 100}, wild...) {
		for _, name := range append([]string{"a", "f", "new"}, badNames...) {
			n, e1 := tree.Make(v, ino, name, ino)
			m, e2 := tree.Make(v, ino, name, api.KindFile)
			e3, e4, e5 := tree.Link(v, ino, name, ino), tree.Unlink(v, ino, name), tree.Rmdir(v, ino, name)
			e6, e7 := tree.Move(v, ino, name, 1, "f"), tree.Move(v, 1, "a", ino, name)
			for i, e := range []api.Errno{e1, e2, e3, e4, e5, e6, e7} {
				if e != api.ErrClosed || n != 0 || m != 0 {
					t.Fatalf("%s: call %d of (%d, %q): %v, %d, %d", what, i, ino, name, e, n, m)
				}
			}
		}
		if s, e := tree.Stat(v, ino); s != (api.Stat{}) || e != api.ErrClosed {
			t.Errorf("%s: Stat(%d) = %+v, %v", what, ino, s, e)
		}
	}
	if l, e := tree.Walk(v); len(l) != 0 || e != api.ErrClosed {
		t.Errorf("%s: Walk = %v, %v", what, l, e)
	}
}
