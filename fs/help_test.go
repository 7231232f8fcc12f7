package fs_test

import (
	"bytes"
	"math"
	"math/rand"
	"reflect"
	"strings"
	"testing"

	"furrow/api"
	"furrow/fs"
	"furrow/pmem"
	"furrow/replay"
)

// small, middling, tight, large: from the smallest device to the largest one; tight has as few data pages as may be.
var (
	small    = api.Super{Pages: 24, Inodes: 8, Cores: 1}
	middling = api.Super{Pages: 60, Inodes: 16, Cores: 3}
	tight    = api.Super{Pages: 24, Inodes: 96, Cores: 8}
	large    = api.Super{Pages: 1024, Inodes: 256, Cores: 8}
)

// wild: numbers that no offset and no size is.
var wild = []int{-1, -2, -512, api.MaxSize + 1, 1<<31 + 1, 1 << 32, -1 << 32, 1 << 62, math.MaxInt, math.MaxInt - 4095, math.MinInt, math.MinInt + 1}

// oddTexts: texts of which each is refused as it stands, whatever is there.
var oddTexts = []struct {
	text string
	e    api.Errno
}{
	{"", api.ErrPathForm}, {"a", api.ErrPathForm}, {"a/b", api.ErrPathForm}, {".", api.ErrPathForm}, {"..", api.ErrPathForm}, {" /a", api.ErrPathForm}, {"\x00", api.ErrPathForm}, {"/\x00", api.ErrPathForm}, {"/a\x00", api.ErrPathForm}, {"/a/\x00/b", api.ErrPathForm},
	{"/" + strings.Repeat("n", 29), api.ErrNameLong}, {"/a/" + strings.Repeat("n", 29) + "/", api.ErrNameLong}, {"/" + strings.Repeat(".", 29), api.ErrNameLong}, {"/" + strings.Repeat("n", 199), api.ErrNameLong},
	{strings.Repeat("/", 201), api.ErrPathLong}, {"/" + strings.Repeat("n", 200), api.ErrPathLong}, {strings.Repeat("n", 201), api.ErrPathLong}, {"/\x00" + strings.Repeat("/", 199), api.ErrPathLong}, {"/" + strings.Repeat("a/", 50000), api.ErrPathLong},
}

func chance() *rand.Rand { return rand.New(rand.NewSource(18)) }

func oneOf[T any](r *rand.Rand, list []T) T { return list[r.Intn(len(list))] }

func blank(t *testing.T, pages int) *pmem.Device {
	t.Helper()
	d, e := pmem.New(512 * pages)
	if e != api.OK {
		t.Fatal("New", e)
	}
	return d
}

func load(t *testing.T, image []byte) *pmem.Device {
	t.Helper()
	d, e := pmem.Load(image)
	if e != api.OK {
		t.Fatal("Load", e)
	}
	return d
}

func mounts(t *testing.T, d *pmem.Device) *fs.FS {
	t.Helper()
	f, err := fs.Mount(d, 1, nil)
	if f == nil || err != nil {
		t.Fatalf("Mount: %v", err)
	}
	return f
}

func formats(t *testing.T, d *pmem.Device, s api.Super) {
	t.Helper()
	if err := fs.Mkfs(d, s); err != nil {
		t.Fatalf("Mkfs(%v) = %v", s, err)
	}
}

// fresh: a device and its file system, with the root alone.
func fresh(t *testing.T, s api.Super) (*pmem.Device, *fs.FS) {
	t.Helper()
	d := blank(t, s.Pages)
	formats(t, d, s)
	return d, mounts(t, d)
}

// did: whether all of them were done.
func did(t *testing.T, f *fs.FS, list ...op) {
	t.Helper()
	for _, o := range list {
		if _, err := o.on(f); err != nil {
			t.Fatalf("%v = %v", o, err)
		}
	}
}

// furniture: the directories /a (with g, h, s), /a/s (with t), /a/s/t (with u), /d (with k) and /e (empty); the files /f (with the name /a/h too), /a/g, /a/s/t/u (with the name /d/k too). Their numbers: a 2, f 3, e 4, g 5, s 6, t 7, u 8, d 9.
func furniture() []op {
	return []op{
		mkdir("/a"), create("/f"), mkdir("/e"), create("/a/g"), mkdir("/a/s"), mkdir("/a/s/t"), create("/a/s/t/u"), mkdir("/d"),
		link("/f", "/a/h"), link("/a/s/t/u", "/d/k"), write("/f", 0, "of f"), write("/a/g", 600, "of g"),
	}
}

// furnished: a middling file system with that furniture, and the plain tree that it is.
func furnished(t *testing.T) (*pmem.Device, *fs.FS, *plain) {
	t.Helper()
	d, f := fresh(t, middling)
	did(t, f, furniture()...)
	return d, f, grown(middling, furniture())
}

// still: whether a call did nothing to a device and to what it means.
func still(t *testing.T, what string, d *pmem.Device, call func()) {
	t.Helper()
	steps, view, doubts := d.Steps(), d.View(), d.Doubts()
	call()
	if d.Steps() != steps || !bytes.Equal(d.View(), view) || !reflect.DeepEqual(d.Doubts(), doubts) {
		t.Errorf("%s: it did %d steps", what, d.Steps()-steps)
	}
}

// refuses: whether each operation answers that, and has done nothing.
func refuses(t *testing.T, d *pmem.Device, f *fs.FS, want api.Errno, list ...op) {
	t.Helper()
	for _, o := range list {
		still(t, o.String(), d, func() {
			if a, err := o.on(f); told(t, o, a, err) != want {
				t.Errorf("%v = %v; want %v", o, err, want)
			}
		})
	}
}

// replayed: the state that bytes mean.
func replayed(t *testing.T, image []byte) api.State {
	t.Helper()
	st, err := replay.Replay(image)
	if err != nil {
		t.Fatalf("Replay: %v", err)
	}
	return st
}

// freeOf: how many pages are free by what a device's bytes mean.
func freeOf(t *testing.T, d *pmem.Device) int {
	t.Helper()
	n := 0
	for _, s := range replayed(t, d.View()).Free {
		n += s.Count
	}
	return n
}

func walked(t *testing.T, f *fs.FS) []api.Item {
	t.Helper()
	l, err := f.Walk()
	if err != nil {
		t.Fatal("Walk", err)
	}
	return l
}

func informed(t *testing.T, f *fs.FS) api.Info {
	t.Helper()
	i, err := f.Info()
	if err != nil {
		t.Fatal("Info", err)
	}
	return i
}

// allOps: one operation of each name, on these paths.
func allOps(a, b string) []op {
	return []op{
		create(a), mkdir(a), unlink(a), rmdir(a), rename(a, b), link(a, b), read(a, 0, 1), write(a, 0, "x"), truncate(a, 0), stat(a), readdir(a),
		{name: "walk"}, {name: "info"}, {name: "unmount"},
	}
}

// withPaths: those of them that take a path.
func withPaths(a, b string) []op { return allOps(a, b)[:11] }

// closed: whether the file system is closed, whatever is wrong beside it.
func closed(t *testing.T, what string, d *pmem.Device, f *fs.FS) {
	t.Helper()
	texts := []string{"/", "/a", "/f/", "/new", "/x/y", "/a/.."}
	for _, o := range oddTexts {
		texts = append(texts, o.text)
	}
	for _, text := range texts {
		refuses(t, d, f, api.ErrClosed, allOps(text, "/")...)
		refuses(t, d, f, api.ErrClosed, allOps("/a", text)...)
		for _, n := range wild {
			refuses(t, d, f, api.ErrClosed, read(text, n, n), write(text, n, strings.Repeat("x", 5000)), truncate(text, n))
		}
	}
	if t.Failed() {
		t.Fatalf("%s: it is not closed", what)
	}
}
