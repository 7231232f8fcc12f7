package ship_test

import (
	"bytes"
	"errors"
	"fmt"
	"math/rand"
	"reflect"
	"strings"
	"testing"

	"furrow/api"
	"furrow/archive"
	"furrow/fs"
	"furrow/pmem"
	"furrow/ship"
)

// small, tight, middling, large: from the smallest device to the largest one; tight has one core for all.
var (
	small    = api.Super{Pages: 24, Inodes: 8, Cores: 1}
	tight    = api.Super{Pages: 64, Inodes: 24, Cores: 1}
	middling = api.Super{Pages: 100, Inodes: 24, Cores: 3}
	large    = api.Super{Pages: 1024, Inodes: 256, Cores: 8}
)

func chance() *rand.Rand { return rand.New(rand.NewSource(23)) }

func pick[T any](r *rand.Rand, l ...T) T { return l[r.Intn(len(l))] }

func zeros(n int) string { return strings.Repeat("\x00", n) }

func dir(path string) api.Member { return api.Member{Kind: api.KindDir, Path: path} }

func link(path, to string) api.Member {
	return api.Member{Kind: api.MemberLink, Path: path, Link: to}
}

// file: a file with these bytes.
func file(path, data string) api.Member {
	m := api.Member{Kind: api.KindFile, Path: path, Size: len(data)}
	for off := 0; off < len(data); off += 512 {
		page := data[off:min(off+512, len(data))]
		if page != zeros(len(page)) {
			m.Pieces = append(m.Pieces, api.Piece{Off: off, Data: page})
		}
	}
	return m
}

func create(a string) api.Step { return api.Step{Kind: api.StepCreate, A: a} }

func mkdir(a string) api.Step { return api.Step{Kind: api.StepMkdir, A: a} }

func unlink(a string) api.Step { return api.Step{Kind: api.StepUnlink, A: a} }

func rmdir(a string) api.Step { return api.Step{Kind: api.StepRmdir, A: a} }

func linked(a, b string) api.Step { return api.Step{Kind: api.StepLink, A: a, B: b} }

func write(a string, n int, b string) api.Step {
	return api.Step{Kind: api.StepWrite, A: a, N: n, B: b}
}

func truncate(a string, n int) api.Step { return api.Step{Kind: api.StepTruncate, A: a, N: n} }

// shown: members for a reader, long texts cut short.
func shown(list []api.Member) string {
	var b strings.Builder
	for _, m := range list[:min(len(list), 40)] {
		fmt.Fprintf(&b, "\n  %d %.60q %.60q %d", m.Kind, m.Path, m.Link, m.Size)
		for _, p := range m.Pieces[:min(len(m.Pieces), 9)] {
			fmt.Fprintf(&b, " %d:%.20q", p.Off, strings.TrimRight(p.Data, "\x00"))
		}
	}
	return b.String()
}

// told: steps for a reader, long texts cut short.
func told(list []api.Step) string {
	var b strings.Builder
	for _, s := range list[:min(len(list), 60)] {
		fmt.Fprintf(&b, "\n  %d %.60q %d %.40q, %d bytes", s.Kind, s.A, s.N, strings.TrimRight(s.B, "\x00"), len(s.B))
	}
	return b.String()
}

// sameSteps: whether two lists are the same; nil and an empty one are.
func sameSteps(a, b []api.Step) bool {
	return len(a) == 0 && len(b) == 0 || reflect.DeepEqual(a, b)
}

// made: the archive of a good list.
func made(t *testing.T, list ...api.Member) []byte {
	t.Helper()
	b, e := archive.Make(list)
	if e != api.OK {
		t.Fatalf("Make = %v of%s", e, shown(list))
	}
	return b
}

// opened: the members of an archive.
func opened(t *testing.T, b []byte) []api.Member {
	t.Helper()
	list, e := archive.Open(b)
	if e != api.OK {
		t.Fatal("Open", e)
	}
	return list
}

// planned: the way from one archive to another.
func planned(t *testing.T, from, to []byte) []api.Step {
	t.Helper()
	list, e := ship.Plan(from, to)
	if e != api.OK {
		t.Fatalf("P23.2: Plan = %v, from%s\nto%s", e, shown(opened(t, from)), shown(opened(t, to)))
	}
	return list
}

// plans: whether the way from one list to another has just these steps.
func plans(t *testing.T, from, to []api.Member, want ...api.Step) {
	t.Helper()
	if list := planned(t, made(t, from...), made(t, to...)); !sameSteps(list, want) {
		t.Fatalf("P23.2: from%s\nto%s\nthe way is%s\nwant%s", shown(from), shown(to), told(list), told(want))
	}
}

// of: members as a list.
func of(list ...api.Member) []api.Member { return list }

func load(t *testing.T, image []byte) *pmem.Device {
	t.Helper()
	d, e := pmem.Load(image)
	if e != api.OK {
		t.Fatal("Load", e)
	}
	return d
}

func mounts(t *testing.T, d *pmem.Device) *fs.FS {
	t.Helper()
	f, err := fs.Mount(d, 2, nil)
	if err != nil {
		t.Fatal("Mount", err)
	}
	return f
}

// fresh: a device and its file system, with the root alone.
func fresh(t *testing.T, s api.Super) (*pmem.Device, *fs.FS) {
	t.Helper()
	d := load(t, make([]byte, 512*s.Pages))
	if err := fs.Mkfs(d, s); err != nil {
		t.Fatal("Mkfs", err)
	}
	return d, mounts(t, d)
}

// holding: a device and its file system with a tree.
func holding(t *testing.T, s api.Super, tree []byte) (*pmem.Device, *fs.FS) {
	t.Helper()
	d, f := fresh(t, s)
	if _, err := archive.Unpack(f, "/", tree); err != nil {
		t.Fatal("Unpack", err)
	}
	return d, f
}

func packed(t *testing.T, f *fs.FS) []byte {
	t.Helper()
	b, err := archive.Pack(f)
	if err != nil {
		t.Fatal("Pack", err)
	}
	return b
}

// is: whether a file system's tree is that of an archive.
func is(t *testing.T, what string, f *fs.FS, want []byte) {
	t.Helper()
	if b := packed(t, f); !bytes.Equal(b, want) {
		t.Fatalf("%s: there is%s\nwant%s", what, shown(opened(t, b)), shown(opened(t, want)))
	}
}

// applied: whether all of a list is played.
func applied(t *testing.T, what string, f *fs.FS, list []api.Step) {
	t.Helper()
	if n, err := ship.Apply(f, list); n != len(list) || err != nil {
		t.Fatalf("%s: Apply = %d, %v of%s", what, n, err, told(list))
	}
}

// tells: whether an error is just a *api.PathError of these.
func tells(err error, op, path string, why api.Errno) bool {
	p, is := err.(*api.PathError)
	return is && p != nil && *p == api.PathError{Op: op, Path: path, Err: why} && errors.Is(err, why)
}

// applyTells: whether Apply ends behind so many steps with that error of the path interface.
func applyTells(t *testing.T, f *fs.FS, list []api.Step, n int, op, path string, why api.Errno) {
	t.Helper()
	if got, err := ship.Apply(f, list); got != n || !tells(err, op, path, why) {
		t.Fatalf("P23.4: Apply = %d, %v; want %d, %s %q %v", got, err, n, op, path, why)
	}
}

// applyRefuses: whether Apply ends behind so many steps at one that is of no kind.
func applyRefuses(t *testing.T, f *fs.FS, list []api.Step, n int) {
	t.Helper()
	if got, err := ship.Apply(f, list); got != n || err != error(api.ErrStepKind) {
		t.Fatalf("P23.4: Apply = %d, %v; want %d, %v", got, err, n, api.ErrStepKind)
	}
}

// alike: whether two devices have the same bytes, steps and doubts.
func alike(a, b *pmem.Device) bool {
	return a.Steps() == b.Steps() && bytes.Equal(a.View(), b.View()) && reflect.DeepEqual(a.Doubts(), b.Doubts())
}

// still: whether a call did nothing to a device.
func still(t *testing.T, what string, d *pmem.Device, call func()) {
	t.Helper()
	steps, view, doubts := d.Steps(), d.View(), d.Doubts()
	call()
	if d.Steps() != steps || !bytes.Equal(d.View(), view) || !reflect.DeepEqual(d.Doubts(), doubts) {
		t.Fatalf("%s: it did %d steps", what, d.Steps()-steps)
	}
}

func did(t *testing.T, errs ...error) {
	t.Helper()
	for i, err := range errs {
		if err != nil {
			t.Fatalf("call %d: %v", i, err)
		}
	}
}
