package archive_test

import (
	"bytes"
	"encoding/binary"
	"errors"
	"fmt"
	"hash/crc32"
	"math/rand"
	"reflect"
	"regexp"
	"slices"
	"strings"
	"testing"

	"furrow/api"
	"furrow/archive"
	"furrow/fs"
	"furrow/pmem"
)

// small, tight, middling, large: from the smallest device to the largest one; tight has few pages for its inodes.
var (
	small    = api.Super{Pages: 24, Inodes: 8, Cores: 1}
	tight    = api.Super{Pages: 28, Inodes: 64, Cores: 2}
	middling = api.Super{Pages: 100, Inodes: 24, Cores: 3}
	large    = api.Super{Pages: 1024, Inodes: 256, Cores: 8}
)

func chance() *rand.Rand { return rand.New(rand.NewSource(21)) }

func pick[T any](r *rand.Rand, l ...T) T { return l[r.Intn(len(l))] }

func dir(path string) api.Member { return api.Member{Kind: api.KindDir, Path: path} }

func file(path string, size int, pieces ...api.Piece) api.Member {
	return api.Member{Kind: api.KindFile, Path: path, Size: size, Pieces: pieces}
}

func link(path, to string) api.Member {
	return api.Member{Kind: api.MemberLink, Path: path, Link: to}
}

func piece(off int, data string) api.Piece { return api.Piece{Off: off, Data: data} }

// page: a text with zeros behind it, 512 bytes in all.
func page(s string) string { return s + strings.Repeat("\x00", 512-len(s)) }

// example: the list of the chapter's second example.
func example() []api.Member {
	return []api.Member{dir("d"), file("d/f", 600, piece(0, page("x"))), link("g", "d/f")}
}

// shown: a list for a reader, its long texts cut short.
func shown(list []api.Member) string {
	var b strings.Builder
	for k, m := range list {
		if k == 40 {
			fmt.Fprintf(&b, "\n  .. %d in all", len(list))
			break
		}
		fmt.Fprintf(&b, "\n  %d %.60q %.60q %d", m.Kind, m.Path, m.Link, m.Size)
		for _, p := range m.Pieces[:min(len(m.Pieces), 9)] {
			fmt.Fprintf(&b, " %d:%d bytes", p.Off, len(p.Data))
		}
	}
	return b.String()
}

var pathForm = regexp.MustCompile(`(?s)^[^/\x00]{1,28}(/[^/\x00]{1,28})*$`)

// isPath: whether a text can be a member's path, by its form.
func isPath(path string) bool {
	letters := make([]rune, len(path)) // one a byte
	for i := range len(path) {
		letters[i] = rune(path[i])
	}
	walled := "/" + path + "/"
	return len(path) <= 199 && pathForm.MatchString(string(letters)) && !strings.Contains(walled, "/./") && !strings.Contains(walled, "/../")
}

// isAhead: whether the one path is ahead of the other: as texts whose slashes are below every byte of a name.
func isAhead(a, b string) bool {
	return strings.ReplaceAll(a, "/", "\x00") < strings.ReplaceAll(b, "/", "\x00")
}

func has(list []api.Member, path string, kind int) bool {
	return slices.ContainsFunc(list, func(m api.Member) bool { return m.Path == path && m.Kind == kind })
}

// isGood: whether a list is good, by the chapter's words, written down a second time.
func isGood(list []api.Member) bool {
	links := map[string]int{}
	for k, m := range list {
		if !isPath(m.Path) || k > 0 && !isAhead(list[k-1].Path, m.Path) {
			return false
		}
		if cut := strings.LastIndexByte(m.Path, '/'); cut >= 0 && !has(list, m.Path[:cut], 2) {
			return false
		}
		plain := m.Size == 0 && len(m.Pieces) == 0
		switch m.Kind {
		case 1:
			if m.Link != "" || m.Size < 0 || m.Size > 262144 || !arePieces(m.Size, m.Pieces) {
				return false
			}
		case 2:
			if m.Link != "" || !plain {
				return false
			}
		case 3:
			links[m.Link]++
			if !plain || !has(list, m.Link, 1) || !isAhead(m.Link, m.Path) || links[m.Link] > 99 {
				return false
			}
		default:
			return false
		}
	}
	return len(list) <= 8192
}

func arePieces(size int, list []api.Piece) bool {
	for k, p := range list {
		if p.Off < 0 || p.Off >= size || p.Off/512*512 != p.Off || k > 0 && list[k-1].Off >= p.Off {
			return false
		}
		if want := size - p.Off; len(p.Data) != 512 && (want >= 512 || len(p.Data) != want) || len(p.Data) > want {
			return false
		}
		if !slices.ContainsFunc([]byte(p.Data), func(c byte) bool { return c != 0 }) {
			return false
		}
	}
	return true
}

func half(b []byte, n int) []byte { return binary.LittleEndian.AppendUint32(b, uint32(n)) }

// lineOf: the first line, of any number of members.
func lineOf(members int) []byte {
	b := half([]byte("FURROWAR"), members)
	b = append(b, make([]byte, 60-len(b))...)
	return half(b, int(crc32.ChecksumIEEE(b)))
}

// bodyOf: a member's bytes but its sum, of any member.
func bodyOf(m api.Member) []byte {
	var b []byte
	for _, n := range []int{m.Kind, len(m.Path), len(m.Link), m.Size, len(m.Pieces)} {
		b = half(b, n)
	}
	b = append(b, m.Path+m.Link...)
	for _, p := range m.Pieces {
		b = append(half(half(b, p.Off), len(p.Data)), p.Data...)
	}
	return b
}

// summed: bytes with their sum behind them.
func summed(b []byte) []byte { return half(slices.Clip(b), int(crc32.ChecksumIEEE(b))) }

// bytesOf: the bytes of a list, good or not, written down a second time.
func bytesOf(list []api.Member) []byte {
	b := lineOf(len(list))
	for _, m := range list {
		b = append(b, summed(bodyOf(m))...)
	}
	return b
}

// halved: whether the numbers of a list are such as halves hold.
func halved(list []api.Member) bool {
	fits := func(n int) bool { return n >= 0 && n < 1<<32 }
	return !slices.ContainsFunc(list, func(m api.Member) bool {
		return !fits(m.Kind) || !fits(m.Size) || slices.ContainsFunc(m.Pieces, func(p api.Piece) bool { return !fits(p.Off) })
	})
}

// plain: a list in which no pieces are nil.
func plain(list []api.Member) []api.Member {
	var l []api.Member
	for _, m := range list {
		if len(m.Pieces) == 0 {
			m.Pieces = nil
		}
		l = append(l, m)
	}
	return l
}

func same(a, b []api.Member) bool { return reflect.DeepEqual(plain(a), plain(b)) }

// made: the bytes of a good list.
func made(t *testing.T, list []api.Member) []byte {
	t.Helper()
	b, e := archive.Make(list)
	if e != api.OK {
		t.Fatalf("Make = %v of%s", e, shown(list))
	}
	return b
}

// judged: whether Make, and Open of such bytes, answer what the chapter says of a list; whether it is good.
func judged(t *testing.T, list []api.Member) bool {
	t.Helper()
	want := isGood(list)
	b, e := archive.Make(list)
	switch {
	case want && (e != api.OK || !bytes.Equal(b, bytesOf(list))):
		t.Fatalf("P21.1: Make = %d bytes, %v of%s", len(b), e, shown(list))
	case !want && (e != api.ErrMember || b != nil):
		t.Fatalf("P21.1: Make = %d bytes, %v of what is no good list:%s", len(b), e, shown(list))
	}
	if !halved(list) {
		return want
	}
	back, e := archive.Open(bytesOf(list))
	switch {
	case want && (e != api.OK || !same(back, list)):
		t.Fatalf("P21.2: Open = %v,%s\nof the bytes of%s", e, shown(back), shown(list))
	case !want && (e != api.ErrArchive || back != nil):
		t.Fatalf("P21.2: Open = %v,%s\nof the bytes of what is no good list:%s", e, shown(back), shown(list))
	}
	return want
}

// refused: whether Open refuses these bytes.
func refused(t *testing.T, what string, b []byte) {
	t.Helper()
	if list, e := archive.Open(b); e != api.ErrArchive || list != nil {
		t.Fatalf("Open of %s = %v,%s", what, e, shown(list))
	}
}

func load(t *testing.T, image []byte) *pmem.Device {
	t.Helper()
	d, e := pmem.Load(image)
	if e != api.OK {
		t.Fatal("Load", e)
	}
	return d
}

func mounts(t *testing.T, d *pmem.Device) *fs.FS {
	t.Helper()
	f, err := fs.Mount(d, 2, nil)
	if err != nil {
		t.Fatal("Mount", err)
	}
	return f
}

// fresh: a device and its file system, with the root alone.
func fresh(t *testing.T, s api.Super) (*pmem.Device, *fs.FS) {
	t.Helper()
	d := load(t, make([]byte, 512*s.Pages))
	if err := fs.Mkfs(d, s); err != nil {
		t.Fatal("Mkfs", err)
	}
	return d, mounts(t, d)
}

func did(t *testing.T, errs ...error) {
	t.Helper()
	for i, err := range errs {
		if err != nil {
			t.Fatalf("call %d: %v", i, err)
		}
	}
}

// packed: what Pack answers of a file system that it takes.
func packed(t *testing.T, f *fs.FS) []byte {
	t.Helper()
	b, err := archive.Pack(f)
	if err != nil {
		t.Fatal("Pack", err)
	}
	return b
}

// unpacked: all of an archive is made below a path.
func unpacked(t *testing.T, f *fs.FS, under string, b []byte) {
	t.Helper()
	list, e := archive.Open(b)
	if n, err := archive.Unpack(f, under, b); e != api.OK || err != nil || n != len(list) {
		t.Fatalf("Unpack(%q) = %d, %v; Open answers %d members, %v", under, n, err, len(list), e)
	}
}

// tells: whether an error is just a *api.PathError of these.
func tells(err error, op, path string, why api.Errno) bool {
	p, is := err.(*api.PathError)
	return is && p != nil && *p == api.PathError{Op: op, Path: path, Err: why} && errors.Is(err, why)
}

// unpackTells: whether Unpack answers that.
func unpackTells(t *testing.T, f *fs.FS, under string, b []byte, n int, path string, why api.Errno) {
	t.Helper()
	if got, err := archive.Unpack(f, under, b); got != n || !tells(err, "unpack", path, why) {
		t.Fatalf("Unpack(%q, %d bytes) = %d, %v; want %d, %q %v", under, len(b), got, err, n, path, why)
	}
}

// packTells: whether Pack answers nothing but that.
func packTells(t *testing.T, f *fs.FS, why api.Errno) {
	t.Helper()
	if b, err := archive.Pack(f); b != nil || !tells(err, "pack", "", why) {
		t.Fatalf("Pack = %d bytes, %v; want %v", len(b), err, why)
	}
}

func walked(t *testing.T, f *fs.FS) []api.Item {
	t.Helper()
	l, err := f.Walk()
	if err != nil {
		t.Fatal("Walk", err)
	}
	return l
}

// looks: a walk without what is the device's: the inodes' numbers and the pages. Which names are names of one file is told by the first of them.
func looks(t *testing.T, f *fs.FS) []string {
	t.Helper()
	first := map[int]string{}
	var list []string
	for _, i := range walked(t, f) {
		if first[i.Stat.Ino] == "" {
			first[i.Stat.Ino] = i.Path
		}
		list = append(list, fmt.Sprintf("%q %q %d %d %d %d", i.Path, first[i.Stat.Ino], i.Stat.Kind, i.Stat.Size, i.Stat.Links, i.Sum))
	}
	return list
}

// still: whether a call did nothing to a device.
func still(t *testing.T, what string, d *pmem.Device, call func()) {
	t.Helper()
	steps, view, doubts := d.Steps(), d.View(), d.Doubts()
	call()
	if d.Steps() != steps || !bytes.Equal(d.View(), view) || !reflect.DeepEqual(d.Doubts(), doubts) {
		t.Fatalf("%s: it did %d steps", what, d.Steps()-steps)
	}
}

// op: a call of the path interface.
type op struct {
	name, a, b string
	n          int
}

func (o op) on(f *fs.FS) error {
	switch o.name {
	case "mkdir":
		return f.Mkdir(o.a)
	case "create":
		return f.Create(o.a)
	case "write":
		return f.Write(o.a, o.n, o.b)
	case "truncate":
		return f.Truncate(o.a, o.n)
	case "link":
		return f.Link(o.a, o.b)
	case "unlink":
		return f.Unlink(o.a)
	case "rmdir":
		return f.Rmdir(o.a)
	case "rename":
		return f.Rename(o.a, o.b)
	}
	panic(o.name)
}

// opsOf: the operations by which a member is made, by the chapter's words: base is what stands ahead of the slash and a path.
func opsOf(base string, m api.Member) []op {
	at := base + "/" + m.Path
	switch m.Kind {
	case 2:
		return []op{{name: "mkdir", a: at}}
	case 3:
		return []op{{name: "link", a: base + "/" + m.Link, b: at}}
	}
	list := []op{{name: "create", a: at}}
	end := 0
	for _, p := range m.Pieces {
		list = append(list, op{name: "write", a: at, n: p.Off, b: p.Data})
		end = p.Off + len(p.Data)
	}
	if end != m.Size {
		list = append(list, op{name: "truncate", a: at, n: m.Size})
	}
	return list
}

// byHand: the members of a good list are made one by one; how many were made, and what the first refusal was and at which place.
func byHand(f *fs.FS, base string, list []api.Member) (int, string, api.Errno) {
	for k, m := range list {
		for _, o := range opsOf(base, m) {
			var e api.Errno
			if errors.As(o.on(f), &e) {
				return k, base + "/" + m.Path, e
			}
		}
	}
	return len(list), "", api.OK
}
