package tidy_test

import (
	"bytes"
	"math"
	"math/rand"
	"reflect"
	"strings"
	"testing"

	"furrow/api"
	"furrow/files"
	"furrow/pmem"
	"furrow/replay"
	"furrow/tidy"
	"furrow/tree"
	"furrow/volume"
)

// small, middling, tight, large: from the smallest device to the largest one; tight has as few data pages as may be.
var (
	small    = api.Super{Pages: 24, Inodes: 8, Cores: 1}
	middling = api.Super{Pages: 60, Inodes: 16, Cores: 3}
	tight    = api.Super{Pages: 24, Inodes: 96, Cores: 8}
	large    = api.Super{Pages: 1024, Inodes: 256, Cores: 8}
)

// wild: numbers that no inode is.
var wild = []int{0, -1, -2, -3, 257, 1<<31 + 2, 1<<32 + 1, 1<<32 + 2, -1<<32 + 2, 1 << 62, math.MaxInt, math.MaxInt - 1, math.MinInt, math.MinInt + 1, math.MinInt + 2}

func chance() *rand.Rand { return rand.New(rand.NewSource(24)) }

func oneOf[T any](r *rand.Rand, list []T) T { return list[r.Intn(len(list))] }

func load(t *testing.T, image []byte) *pmem.Device {
	t.Helper()
	d, e := pmem.Load(image)
	if e != api.OK {
		t.Fatal("Load", e)
	}
	return d
}

func mounts(t *testing.T, d *pmem.Device) *volume.Volume {
	t.Helper()
	v, err := volume.Mount(d, 1, nil)
	if v == nil || err != nil {
		t.Fatalf("Mount: %v", err)
	}
	return v
}

// fresh: a device and its volume, with so many files without bytes in the root, from inode 2 on: a, b, ..
func fresh(t *testing.T, s api.Super, many int) (*pmem.Device, *volume.Volume) {
	t.Helper()
	d, e := pmem.New(512 * s.Pages)
	if e != api.OK {
		t.Fatal("New", e)
	}
	if e := volume.Format(d, s); e != api.OK {
		t.Fatalf("Format(%v) = %v", s, e)
	}
	v := mounts(t, d)
	for k := range many {
		makes(t, v, 1, string(rune('a'+k)), api.KindFile)
	}
	return d, v
}

func makes(t *testing.T, v *volume.Volume, dir int, name string, kind int) int {
	t.Helper()
	n, e := tree.Make(v, dir, name, kind)
	if n == 0 || e != api.OK {
		t.Fatalf("Make(%d, %q, %d) = %d, %v", dir, name, kind, n, e)
	}
	return n
}

func writes(t *testing.T, v *volume.Volume, ino, off int, data string) {
	t.Helper()
	if e := files.Write(v, ino, off, data); e != api.OK {
		t.Fatalf("Write(%d, %d, %d bytes) = %v", ino, off, len(data), e)
	}
}

func does(t *testing.T, v *volume.Volume, edits ...api.Edit) {
	t.Helper()
	if e := v.Do(edits); e != api.OK {
		t.Fatalf("Do = %v", e)
	}
}

// page: a page's bytes that are all one.
func page(c byte) string { return strings.Repeat(string([]byte{c}), 512) }

// noise: so many bytes, any at all, but none of them 0.
func noise(r *rand.Rand, n int) string {
	b := make([]byte, n)
	for i := range b {
		b[i] = byte(1 + r.Intn(255))
	}
	return string(b)
}

func node(t *testing.T, v *volume.Volume, ino int) api.Node {
	t.Helper()
	n, e := v.Node(ino)
	if e != api.OK {
		t.Fatalf("Node(%d) = %v", ino, e)
	}
	return n
}

// maps: whether a file's map is this (Off, Page, Count in turn).
func maps(t *testing.T, v *volume.Volume, ino int, runs ...int) {
	t.Helper()
	var l []int
	for _, r := range node(t, v, ino).Map {
		l = append(l, r.Off, r.Page, r.Count)
	}
	if !reflect.DeepEqual(l, runs) && len(l)+len(runs) > 0 {
		t.Fatalf("the map of %d is %v; want %v", ino, l, runs)
	}
}

// free: whether these are the free pages (From, Count in turn).
func free(t *testing.T, v *volume.Volume, spans ...int) {
	t.Helper()
	var l []int
	for _, s := range v.State().Free {
		l = append(l, s.From, s.Count)
	}
	if !reflect.DeepEqual(l, spans) && len(l)+len(spans) > 0 {
		t.Fatalf("free are %v; want %v", l, spans)
	}
}

// spread: whether that is the volume's.
func spread(t *testing.T, v *volume.Volume, want int) {
	t.Helper()
	if n := tidy.Spread(v); n != want {
		t.Errorf("Spread = %d; want %d", n, want)
	}
}

// file, all: whether the call answers that.
func file(t *testing.T, v *volume.Volume, ino int, want bool, no api.Errno) {
	t.Helper()
	if did, e := tidy.File(v, ino); did != want || e != no {
		t.Fatalf("File(%d) = %v, %v; want %v, %v", ino, did, e, want, no)
	}
}

func all(t *testing.T, v *volume.Volume, want int, no api.Errno) {
	t.Helper()
	if n, e := tidy.All(v); n != want || e != no {
		t.Fatalf("All = %d, %v; want %d, %v", n, e, want, no)
	}
}

// still: whether a call did nothing to a device and its volume.
func still(t *testing.T, what string, d *pmem.Device, v *volume.Volume, call func()) {
	t.Helper()
	st, steps, view, doubts := v.State(), d.Steps(), d.View(), d.Doubts()
	call()
	if d.Steps() != steps || !bytes.Equal(d.View(), view) || !reflect.DeepEqual(d.Doubts(), doubts) {
		t.Errorf("%s: it did %d steps", what, d.Steps()-steps)
	}
	if !reflect.DeepEqual(v.State(), st) {
		t.Errorf("%s: the state is another one", what)
	}
}

// stays: File answers false and OK, and has done nothing.
func stays(t *testing.T, what string, d *pmem.Device, v *volume.Volume, ino int) {
	t.Helper()
	still(t, what, d, v, func() {
		if did, e := tidy.File(v, ino); did || e != api.OK {
			t.Errorf("%s: File(%d) = %v, %v; want false, OK", what, ino, did, e)
		}
	})
}

// fileSeen: what a reader of a file sees: beside what the walk has, its bytes and which of its pages are no holes, with all that stands in them.
type fileSeen struct {
	bytes string
	pages string
}

// seen: all that a reader sees of a tree.
type seen struct {
	walk  []api.Item
	files map[int]fileSeen
}

func seenOf(t *testing.T, v *volume.Volume) seen {
	t.Helper()
	walk, e := tree.Walk(v)
	if e != api.OK {
		t.Fatal("Walk", e)
	}
	s := seen{walk, map[int]fileSeen{}}
	for _, i := range walk {
		if i.Stat.Kind == api.KindFile {
			s.files[i.Stat.Ino] = fileOf(t, v, i.Stat.Ino)
		}
	}
	return s
}

func fileOf(t *testing.T, v *volume.Volume, ino int) fileSeen {
	t.Helper()
	whole, e := files.Whole(v, ino)
	if e != api.OK {
		t.Fatal("Whole", e)
	}
	var pages strings.Builder
	for _, off := range mapped(node(t, v, ino)) {
		b, e := v.Page(ino, off)
		if e != api.OK {
			t.Fatal("Page", e)
		}
		pages.WriteString(string(rune('0' + off)))
		pages.Write(b)
	}
	return fileSeen{whole, pages.String()}
}

// mapped: the file pages that are no holes.
func mapped(n api.Node) []int {
	var l []int
	for _, r := range n.Map {
		for i := range r.Count {
			l = append(l, r.Off+i)
		}
	}
	return l
}

// same: whether a reader sees the same.
func same(t *testing.T, what string, v *volume.Volume, was seen) {
	t.Helper()
	now := seenOf(t, v)
	if !reflect.DeepEqual(now.walk, was.walk) {
		t.Fatalf("%s: the walk is\n%+v\nit was\n%+v", what, now.walk, was.walk)
	}
	for ino, f := range was.files {
		if now.files[ino] != f {
			t.Fatalf("%s: file %d is another", what, ino)
		}
	}
}

// looseOf: the free pages and those of logs together.
func looseOf(v *volume.Volume) int {
	n := v.FreePages()
	for _, f := range v.State().Nodes {
		n += len(f.Log)
	}
	return n
}

// meant: whether the device's bytes mean the volume's state, and none of its words is in doubt.
func meant(t *testing.T, what string, d *pmem.Device, v *volume.Volume) {
	t.Helper()
	st, err := replay.Replay(d.View())
	if err != nil || len(d.Doubts()) != 0 {
		t.Fatalf("%s: the device means %v, doubts %v", what, err, d.Doubts())
	}
	if !reflect.DeepEqual(plain(st), plain(v.State())) {
		t.Fatalf("%s: the device means\n%+v\nthe volume says\n%+v", what, st, v.State())
	}
}

// plain: a state in which a list without elements is nil.
func plain(st api.State) api.State {
	for i := range st.Nodes {
		n := &st.Nodes[i]
		n.Map = append([]api.Run(nil), n.Map...)
		n.Names = append([]api.Dent(nil), n.Names...)
		n.Log = append([]int(nil), n.Log...)
	}
	st.Free = append([]api.Span(nil), st.Free...)
	return st
}

// closed: whether the volume is closed for all three calls, whatever is asked.
func closed(t *testing.T, what string, v *volume.Volume) {
	t.Helper()
	for _, ino := range append([]int{1, 2, 3, 8}, wild...) {
		if did, e := tidy.File(v, ino); did || e != api.ErrClosed {
			t.Errorf("%s: File(%d) = %v, %v", what, ino, did, e)
		}
	}
	if n, e := tidy.All(v); n != 0 || e != api.ErrClosed {
		t.Errorf("%s: All = %d, %v", what, n, e)
	}
	if n := tidy.Spread(v); n != 0 {
		t.Errorf("%s: Spread = %d", what, n)
	}
}
