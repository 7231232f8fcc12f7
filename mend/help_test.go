package mend_test

import (
	"bytes"
	"errors"
	"fmt"
	"math/rand"
	"reflect"
	"slices"
	"strings"
	"testing"

	"furrow/api"
	"furrow/archive"
	"furrow/codec"
	"furrow/fs"
	"furrow/layout"
	"furrow/mend"
	"furrow/pmem"
	"furrow/replay"
)

// small, middling, wide, large: from the smallest device to the largest one; wide is the greatest of which P22.9 speaks.
var (
	small    = api.Super{Pages: 24, Inodes: 8, Cores: 1}
	middling = api.Super{Pages: 60, Inodes: 24, Cores: 3}
	wide     = api.Super{Pages: 128, Inodes: 248, Cores: 2}
	large    = api.Super{Pages: 1024, Inodes: 256, Cores: 8}
)

func chance() *rand.Rand { return rand.New(rand.NewSource(22)) }

func pick[T any](r *rand.Rand, l ...T) T { return l[r.Intn(len(l))] }

// disk: a device's bytes that are put together.
type disk struct {
	t  *testing.T
	sh api.Shape
	b  []byte
}

// blank: a superblock, and zeros: no inode is in use.
func blank(t *testing.T, s api.Super) *disk {
	t.Helper()
	sh, e := layout.Fit(s)
	l, f := layout.PackSuper(s)
	if e != api.OK || f != api.OK {
		t.Fatal("Fit, PackSuper", e, f)
	}
	d := &disk{t, sh, make([]byte, 512*sh.Pages)}
	copy(d.b, l[:])
	copy(d.b[64:], l[:])
	return d
}

// formatted: a superblock, and the root with an empty log.
func formatted(t *testing.T, s api.Super) *disk {
	t.Helper()
	d := blank(t, s)
	d.slot(1, api.KindDir, 1, 0, 0)
	return d
}

func (d *disk) put(at int, w uint64) { copy(d.b[at:], codec.Bytes(w)) }

func (d *disk) word(at int) uint64 {
	w, _ := codec.Word(d.b, at)
	return w
}

// hold stores a number, sealed for its address.
func (d *disk) hold(at, v int) { d.put(at, codec.Seal(at, uint32(v))) }

func (d *disk) slot(ino, kind, links, head, tail int) {
	at := layout.SlotAt(ino)
	d.hold(at, kind+256*links)
	d.hold(at+8, head)
	d.hold(at+16, tail)
}

// spoil makes an inode one that Scan refuses.
func (d *disk) spoil(ino int) { d.put(layout.SlotAt(ino), 7) }

// log stores an inode's log in these pages, and its slot.
func (d *disk) log(ino, kind, links int, pages []int, entries ...api.Entry) {
	d.t.Helper()
	head, tail := 0, 0
	for i, e := range entries {
		e.Seq = uint64(i + 1)
		l, no := layout.PackEntry(e)
		if no != api.OK {
			d.t.Fatalf("PackEntry(%+v): %v", e, no)
		}
		page := pages[i/7]
		copy(d.b[512*page+64*(1+i%7):], l[:])
		d.hold(512*page+8, ino)
		if i/7 > 0 {
			d.hold(512*pages[i/7-1], page)
		}
		head, tail = pages[0], 512*page+64*(2+i%7)
	}
	d.slot(ino, kind, links, head, tail)
}

// dir stores a directory whose log begins at a page, and goes on in the next ones.
func (d *disk) dir(ino, page int, names ...api.Dent) {
	d.t.Helper()
	var l []api.Entry
	for _, n := range names {
		l = append(l, api.Entry{Kind: api.EntAdd, Name: n.Name, Ino: n.Ino})
	}
	d.log(ino, api.KindDir, 1, from(page, (len(l)+6)/7), l...)
}

// file stores a file without bytes.
func (d *disk) file(ino, links int) { d.slot(ino, api.KindFile, links, 0, 0) }

// written stores a file of one link with a log of one page.
func (d *disk) written(ino, page int, entries ...api.Entry) {
	d.t.Helper()
	d.log(ino, api.KindFile, 1, []int{page}, entries...)
}

// pending lays down a journal that has these words' values, and stores others.
func (d *disk) pending(news ...api.Change) {
	d.t.Helper()
	var list []api.Undo
	for _, c := range news {
		list = append(list, api.Undo{At: c.At, Old: d.word(c.At)})
		d.put(c.At, c.New)
	}
	page, e := layout.PackUndo(list)
	if e != api.OK {
		d.t.Fatalf("PackUndo(%v): %v", list, e)
	}
	copy(d.b[512:], page)
}

// unwind makes the journal one that Overlay refuses.
func (d *disk) unwind() { d.put(512, 7) }

// from: so many pages in a row.
func from(page, many int) []int {
	var l []int
	for i := range many {
		l = append(l, page+i)
	}
	return l
}

func to(name string, ino int) api.Dent { return api.Dent{Name: name, Ino: ino} }

func write(off, count, page, size int) api.Entry {
	return api.Entry{Kind: api.EntWrite, Off: off, Count: count, Page: page, Size: size}
}

func sized(size int) api.Entry { return api.Entry{Kind: api.EntSize, Size: size} }

func aDir(path string) api.Member { return api.Member{Kind: api.KindDir, Path: path} }

func aFile(path string, size int, pieces ...api.Piece) api.Member {
	return api.Member{Kind: api.KindFile, Path: path, Size: size, Pieces: pieces}
}

func aLink(path, to string) api.Member {
	return api.Member{Kind: api.MemberLink, Path: path, Link: to}
}

func breach(why api.Errno, place int) api.Breach { return api.Breach{Reason: why, Place: place} }

func loss(why api.Errno, place int) api.Loss { return api.Loss{Reason: why, Place: place} }

func unnamed(why api.Errno, dir int, name string) api.Loss {
	return api.Loss{Reason: why, Place: dir, Name: name}
}

// shown: a list for a reader, its long texts cut short.
func shown(list []api.Member) string {
	var b strings.Builder
	for k, m := range list {
		if k == 60 {
			fmt.Fprintf(&b, "\n  .. %d in all", len(list))
			break
		}
		fmt.Fprintf(&b, "\n  %d %.60q %.60q %d", m.Kind, m.Path, m.Link, m.Size)
		for _, p := range m.Pieces[:min(len(m.Pieces), 9)] {
			fmt.Fprintf(&b, " %d:%d bytes", p.Off, len(p.Data))
		}
	}
	return b.String()
}

// plain: a list in which no pieces are nil.
func plain(list []api.Member) []api.Member {
	var l []api.Member
	for _, m := range list {
		if len(m.Pieces) == 0 {
			m.Pieces = nil
		}
		l = append(l, m)
	}
	return l
}

func same(a, b []api.Member) bool { return reflect.DeepEqual(plain(a), plain(b)) }

// breaches: whether Breaches answers these.
func (d *disk) breaches(what string, want ...api.Breach) {
	d.t.Helper()
	if l := mend.Breaches(d.b); !slices.Equal(l, want) {
		d.t.Errorf("%s: Breaches = %v; want %v", what, l, want)
	}
}

// losses: whether Rescue tells these losses, in this order.
func (d *disk) losses(what string, want ...api.Loss) {
	d.t.Helper()
	if _, l := mend.Rescue(d.b); !slices.Equal(l, want) {
		d.t.Errorf("%s: Rescue tells the losses %v; want %v", what, l, want)
	}
}

// members: whether Rescue answers these, and archive.Make takes them.
func (d *disk) members(what string, want ...api.Member) {
	d.t.Helper()
	l, _ := mend.Rescue(d.b)
	if !same(l, want) {
		d.t.Errorf("%s: Rescue answers%s\nwant%s", what, shown(l), shown(want))
	}
	if _, e := archive.Make(l); e != api.OK {
		d.t.Errorf("P22.7: %s: Make of the members: %v", what, e)
	}
}

// judged: whether Breaches and Rescue answer what the chapter says of any bytes; whether they mean a state.
func judged(t *testing.T, what string, b []byte) bool {
	t.Helper()
	list := mend.Breaches(b)
	if want := modelBreaches(b); !slices.Equal(list, want) {
		t.Fatalf("P22.1: %s: Breaches = %v; want %v", what, list, want)
	}
	members, losses := mend.Rescue(b)
	wantMembers, wantLosses := modelRescue(b)
	if !slices.Equal(losses, wantLosses) {
		t.Fatalf("P22.3: %s: Rescue tells the losses %v; want %v", what, losses, wantLosses)
	}
	if !same(members, wantMembers) {
		t.Fatalf("P22.6: %s: Rescue answers%s\nwant%s", what, shown(members), shown(wantMembers))
	}
	if _, e := archive.Make(members); e != api.OK || len(members) >= api.MaxMembers {
		t.Fatalf("P22.7: %s: Make = %v of%s", what, e, shown(members))
	}
	_, err := replay.Replay(b)
	var c *api.CorruptError
	switch {
	case err == nil && len(list) > 0:
		t.Fatalf("P22.2: %s: Breaches = %v, though Replay answers a state", what, list)
	case errors.As(err, &c) && (len(list) == 0 || list[0] != breach(c.Reason, c.Place)):
		t.Fatalf("P22.2: %s: Breaches = %v, though Replay answers %v", what, list, c)
	}
	return err == nil
}

func load(t *testing.T, image []byte) *pmem.Device {
	t.Helper()
	d, e := pmem.Load(image)
	if e != api.OK {
		t.Fatal("Load", e)
	}
	return d
}

// empty: a device of a super's size, all zeros.
func empty(t *testing.T, s api.Super) *pmem.Device {
	t.Helper()
	return load(t, make([]byte, 512*s.Pages))
}

// packed: what archive.Open reads of what archive.Pack makes of an image that is mounted.
func packed(t *testing.T, image []byte) []api.Member {
	t.Helper()
	f, err := fs.Mount(load(t, image), 2, nil)
	if err != nil {
		t.Fatal("Mount", err)
	}
	b, err := archive.Pack(f)
	list, e := archive.Open(b)
	if err != nil || e != api.OK {
		t.Fatal("Pack, Open", err, e)
	}
	return list
}

// alike: whether two devices have the same bytes, steps and doubts.
func alike(a, b *pmem.Device) bool {
	return a.Steps() == b.Steps() && bytes.Equal(a.View(), b.View()) && reflect.DeepEqual(a.Doubts(), b.Doubts())
}

// byHand: what Mend does to a device, by the chapter's words; the error that ends it.
func byHand(t *testing.T, d *pmem.Device, s api.Super, members []api.Member) error {
	t.Helper()
	b, e := archive.Make(members)
	if e != api.OK {
		t.Fatal("Make", e)
	}
	if err := fs.Mkfs(d, s); err != nil {
		return err
	}
	f, err := fs.Mount(d, 1, nil)
	if err != nil {
		return err
	}
	if _, err := archive.Unpack(f, "/", b); err != nil {
		return err
	}
	return f.Unmount()
}
