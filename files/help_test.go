package files_test

import (
	"bytes"
	"math"
	"math/rand"
	"reflect"
	"slices"
	"strconv"
	"strings"
	"testing"

	"furrow/api"
	"furrow/files"
	"furrow/pmem"
	"furrow/replay"
	"furrow/volume"
)

// small, middling, tight, large: from the smallest device to the largest one; tight has as few data pages as may be.
var (
	small    = api.Super{Pages: 24, Inodes: 8, Cores: 1}
	middling = api.Super{Pages: 60, Inodes: 24, Cores: 3}
	tight    = api.Super{Pages: 24, Inodes: 96, Cores: 8}
	large    = api.Super{Pages: 1024, Inodes: 256, Cores: 8}
)

// wild: numbers that no inode is, and hardly an offset or a size.
var wild = []int{0, -1, -2, -511, -512, -4096, 97, 257, 1<<31 + 1, 1<<32 + 2, -1<<32 + 2, 1 << 62, math.MaxInt, math.MaxInt - 1, math.MaxInt - 511, math.MaxInt - 4095, math.MinInt, math.MinInt + 1, math.MinInt + 512}

func chance() *rand.Rand { return rand.New(rand.NewSource(16)) }

func oneOf[T any](r *rand.Rand, list []T) T { return list[r.Intn(len(list))] }

func load(t *testing.T, image []byte) *pmem.Device {
	t.Helper()
	d, e := pmem.Load(image)
	if e != api.OK {
		t.Fatal("Load", e)
	}
	return d
}

func mounts(t *testing.T, d *pmem.Device) *volume.Volume {
	t.Helper()
	v, err := volume.Mount(d, 1, nil)
	if v == nil || err != nil {
		t.Fatalf("Mount: %v", err)
	}
	return v
}

func does(t *testing.T, v *volume.Volume, edits ...api.Edit) {
	t.Helper()
	if e := v.Do(edits); e != api.OK {
		t.Fatalf("Do = %v", e)
	}
}

// fresh: a device and its volume, with so many files without bytes, from inode 2 on.
func fresh(t *testing.T, s api.Super, many int) (*pmem.Device, *volume.Volume) {
	t.Helper()
	d, e := pmem.New(512 * s.Pages)
	if e != api.OK {
		t.Fatal("New", e)
	}
	if e := volume.Format(d, s); e != api.OK {
		t.Fatalf("Format(%v) = %v", s, e)
	}
	v := mounts(t, d)
	for k := range many {
		makes(t, v, k+2, api.KindFile)
	}
	return d, v
}

// makes: one more inode, with a name in the root.
func makes(t *testing.T, v *volume.Volume, ino, kind int) {
	t.Helper()
	add := api.Entry{Kind: api.EntAdd, Name: "n" + strconv.Itoa(ino), Ino: ino}
	does(t, v, api.Edit{Ino: 1, Entries: []api.Entry{add}}, api.Edit{Ino: ino, Kind: kind, Links: 1})
}

func zeros(n int) string { return strings.Repeat("\x00", n) }

// noise: so many bytes, any at all, but none of them 0.
func noise(r *rand.Rand, n int) string {
	b := make([]byte, n)
	for i := range b {
		b[i] = byte(1 + r.Intn(255))
	}
	return string(b)
}

func node(t *testing.T, v *volume.Volume, ino int) api.Node {
	t.Helper()
	n, e := v.Node(ino)
	if e != api.OK {
		t.Fatalf("Node(%d) = %v", ino, e)
	}
	return n
}

// mapped: the file pages that are no holes.
func mapped(n api.Node) []int {
	var l []int
	for _, r := range n.Map {
		for i := range r.Count {
			l = append(l, r.Off+i)
		}
	}
	return l
}

func writes(t *testing.T, v *volume.Volume, ino, off int, data string) {
	t.Helper()
	if e := files.Write(v, ino, off, data); e != api.OK {
		t.Fatalf("Write(%d, %d, %d bytes) = %v", ino, off, len(data), e)
	}
}

func truncates(t *testing.T, v *volume.Volume, ino, size int) {
	t.Helper()
	if e := files.Truncate(v, ino, size); e != api.OK {
		t.Fatalf("Truncate(%d, %d) = %v", ino, size, e)
	}
}

// reads: whether Read answers that.
func reads(t *testing.T, v *volume.Volume, ino, off, n int, want string) {
	t.Helper()
	if s, e := files.Read(v, ino, off, n); s != want || e != api.OK {
		t.Errorf("Read(%d, %d, %d) = %q, %v; want %q", ino, off, n, s, e, want)
	}
}

// is: whether a file has these bytes, and these pages alone.
func is(t *testing.T, v *volume.Volume, ino int, want string, pages ...int) {
	t.Helper()
	s, e := files.Whole(v, ino)
	if e != api.OK || s != want {
		t.Errorf("Whole(%d) = %d bytes, %v; want %d; they are the same up to %d", ino, len(s), e, len(want), alikeUpTo(s, want))
	}
	n := node(t, v, ino)
	if n.Size != len(want) || !slices.Equal(mapped(n), pages) {
		t.Errorf("the file %d has %d bytes, in the pages %v; want %d, %v", ino, n.Size, mapped(n), len(want), pages)
	}
}

func alikeUpTo(a, b string) int {
	i := 0
	for i < len(a) && i < len(b) && a[i] == b[i] {
		i++
	}
	return i
}

// still: whether a call did nothing to a device and its volume.
func still(t *testing.T, what string, d *pmem.Device, v *volume.Volume, call func()) {
	t.Helper()
	st, steps, view, doubts := v.State(), d.Steps(), d.View(), d.Doubts()
	call()
	if d.Steps() != steps || !bytes.Equal(d.View(), view) || !reflect.DeepEqual(d.Doubts(), doubts) {
		t.Errorf("%s: it did %d steps", what, d.Steps()-steps)
	}
	if !reflect.DeepEqual(v.State(), st) {
		t.Errorf("%s: the state is another one", what)
	}
}

// replayed: the state that bytes mean.
func replayed(t *testing.T, image []byte) api.State {
	t.Helper()
	st, err := replay.Replay(image)
	if err != nil {
		t.Fatalf("Replay: %v", err)
	}
	return st
}

func countOf(spans []api.Span) int {
	n := 0
	for _, s := range spans {
		n += s.Count
	}
	return n
}

// closed: whether the volume is closed, whatever is wrong beside it.
func closed(t *testing.T, what string, v *volume.Volume) {
	t.Helper()
	for _, ino := range []int{0, 1, 2, 3} {
		s1, e1 := files.Read(v, ino, -1, -1)
		s2, e2 := files.Whole(v, ino)
		e3 := files.Write(v, ino, -1, zeros(4097))
		e4 := files.Truncate(v, ino, -1)
		if s1 != "" || s2 != "" || e1 != api.ErrClosed || e2 != api.ErrClosed || e3 != api.ErrClosed || e4 != api.ErrClosed {
			t.Errorf("%s: of inode %d: %q %v, %q %v, %v, %v", what, ino, s1, e1, s2, e2, e3, e4)
		}
	}
	if e := files.Write(v, 2, 0, ""); e != api.ErrClosed {
		t.Errorf("%s: a write of nothing: %v", what, e)
	}
}
