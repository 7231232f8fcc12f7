package mount_test

import (
	"errors"
	"math"
	"math/rand"
	"reflect"
	"slices"
	"testing"

	"furrow/api"
	"furrow/codec"
	"furrow/journal"
	"furrow/layout"
	"furrow/mount"
	"furrow/replay"
)

// small, middling, large: shapes, from the smallest device to the largest one.
var (
	small    = api.Shape{Pages: 24, Inodes: 8, Cores: 1, Data: 5}
	middling = api.Shape{Pages: 60, Inodes: 24, Cores: 3, Data: 7}
	large    = api.Shape{Pages: 1024, Inodes: 256, Cores: 8, Data: 36}
)

// wild: numbers of workers that are none, and picks that are as good as any.
var wild = []int{-1, -2, -63, -64, -65, 65, 127, 128, 1 << 31, 1<<32 + 1, 1<<32 + 8, 1 << 62, math.MaxInt, math.MaxInt - 1, math.MinInt, math.MinInt + 1, math.MinInt + 63, -1<<32 + 7}

func chance() *rand.Rand { return rand.New(rand.NewSource(12)) }

// disk: a device's bytes that are put together.
type disk struct {
	t  *testing.T
	sh api.Shape
	b  []byte
}

// formatted: a superblock, the root with an empty log, and zeros.
func formatted(t *testing.T, sh api.Shape) *disk {
	t.Helper()
	d := &disk{t, sh, make([]byte, 512*sh.Pages)}
	d.super()
	d.slot(1, api.Slot{Kind: api.KindDir, Links: 1})
	return d
}

// scribbled: as formatted, but with anything at all where a mount has nothing to look at.
func scribbled(t *testing.T, r *rand.Rand, sh api.Shape) *disk {
	t.Helper()
	d := &disk{t, sh, make([]byte, 512*sh.Pages)}
	r.Read(d.b)
	d.super()
	d.put(512, 0)
	for ino := 2; ino <= sh.Inodes; ino++ {
		d.slot(ino, api.Slot{})
	}
	d.slot(1, api.Slot{Kind: api.KindDir, Links: 1})
	return d
}

func (d *disk) super() {
	d.t.Helper()
	l, e := layout.PackSuper(api.Super{Pages: d.sh.Pages, Inodes: d.sh.Inodes, Cores: d.sh.Cores})
	if e != api.OK {
		d.t.Fatal("PackSuper", e)
	}
	copy(d.b, l[:])
	copy(d.b[64:], l[:])
}

func (d *disk) put(at int, w uint64) { copy(d.b[at:], codec.Bytes(w)) }

func (d *disk) word(at int) uint64 {
	w, _ := codec.Word(d.b, at)
	return w
}

// hold stores a number, sealed for its address.
func (d *disk) hold(at, v int) { d.put(at, codec.Seal(at, uint32(v))) }

// slot stores of a slot's words those that are looked at.
func (d *disk) slot(ino int, s api.Slot) {
	at := layout.SlotAt(ino)
	d.hold(at, s.Kind+256*s.Links)
	if s.Kind == api.KindFree {
		return
	}
	d.hold(at+16, s.Tail)
	if s.Tail != 0 {
		d.hold(at+8, s.Head)
	}
}

// opened: the slot as the table has it.
func (d *disk) opened(ino int) (api.Slot, api.Errno) {
	at := layout.SlotAt(ino)
	return layout.OpenSlot(ino, [3]uint64{d.word(at), d.word(at + 8), d.word(at + 16)})
}

// line stores an entry in a place of a page, from 1 to 7.
func (d *disk) line(page, place int, e api.Entry) {
	d.t.Helper()
	l, no := layout.PackEntry(e)
	if no != api.OK {
		d.t.Fatalf("PackEntry(%+v): %v", e, no)
	}
	copy(d.b[512*page+64*place:], l[:])
}

// log stores an inode's log in these pages, and its slot. Of the last page's header the word that names the next one stays as it is.
func (d *disk) log(ino, kind, links int, pages []int, entries ...api.Entry) api.Slot {
	d.t.Helper()
	s := api.Slot{Kind: kind, Links: links}
	for i, e := range entries {
		e.Seq = uint64(i + 1)
		page := pages[i/7]
		d.line(page, 1+i%7, e)
		d.hold(512*page+8, ino)
		if i/7 > 0 {
			d.hold(512*pages[i/7-1], page)
		}
		s.Head, s.Tail = pages[0], 512*page+64*(2+i%7)
	}
	d.slot(ino, s)
	return s
}

// pending lays down a journal with these words' values, and spoils the words.
func (d *disk) pending(r *rand.Rand, at ...int) {
	d.t.Helper()
	var list []api.Undo
	for _, a := range at {
		list = append(list, api.Undo{At: a, Old: d.word(a)})
		d.put(a, r.Uint64())
	}
	page, e := layout.PackUndo(list)
	if e != api.OK {
		d.t.Fatalf("PackUndo(%v): %v", list, e)
	}
	copy(d.b[512:], page)
}

// copied: a disk of its own with the same bytes.
func (d *disk) copied() *disk { return &disk{d.t, d.sh, slices.Clone(d.b)} }

func add(name string, ino int) api.Entry { return api.Entry{Kind: api.EntAdd, Name: name, Ino: ino} }

func drop(name string) api.Entry { return api.Entry{Kind: api.EntDrop, Name: name} }

func write(off, count, page, size int) api.Entry {
	return api.Entry{Kind: api.EntWrite, Off: off, Count: count, Page: page, Size: size}
}

func sized(size int) api.Entry { return api.Entry{Kind: api.EntSize, Size: size} }

func dir(ino int, names ...api.Dent) api.Node {
	return api.Node{Ino: ino, Kind: api.KindDir, Links: 1, Names: names}
}

func file(ino, links int) api.Node { return api.Node{Ino: ino, Kind: api.KindFile, Links: links} }

func run(off, page, count int) api.Run { return api.Run{Off: off, Page: page, Count: count} }

func sameNode(a, b api.Node) bool {
	return a.Ino == b.Ino && a.Kind == b.Kind && a.Links == b.Links && a.Size == b.Size && a.Head == b.Head && a.Tail == b.Tail && a.Entries == b.Entries &&
		slices.Equal(a.Map, b.Map) && slices.Equal(a.Names, b.Names) && slices.Equal(a.Log, b.Log)
}

func sameState(a, b api.State) bool {
	return a.Shape == b.Shape && slices.EqualFunc(a.Nodes, b.Nodes, sameNode) && slices.Equal(a.Free, b.Free)
}

// rest: the pages of the data area that aren't among these, one by one put to the span before them.
func rest(sh api.Shape, pages []int) []api.Span {
	var l []api.Span
	for p := sh.Data; p < sh.Pages; p++ {
		switch {
		case slices.Contains(pages, p):
		case len(l) > 0 && l[len(l)-1].From+l[len(l)-1].Count == p:
			l[len(l)-1].Count++
		default:
			l = append(l, api.Span{From: p, Count: 1})
		}
	}
	return l
}

// answers: whether a state and an error are those of Replay of the image, the error of the same make; Replay's reason.
func answers(t *testing.T, what string, b []byte, st api.State, err error) api.Errno {
	t.Helper()
	want, no := replay.Replay(b)
	if no == nil {
		if err != nil || !sameState(st, want) {
			t.Errorf("%s: %+v, %v; want %+v", what, st, err, want)
		}
		return api.OK
	}
	told(t, what, st, err, *no.(*api.CorruptError))
	return no.(*api.CorruptError).Reason
}

// told: whether a state and an error are the empty State and a *api.CorruptError with this reason and place.
func told(t *testing.T, what string, st api.State, err error, want api.CorruptError) {
	t.Helper()
	c, is := err.(*api.CorruptError)
	if !is || c == nil || *c != want || !errors.Is(err, api.ErrCorrupt) || !reflect.DeepEqual(st, api.State{}) {
		t.Errorf("%s: %+v, %v; want %v at %d", what, st, err, want.Reason, want.Place)
	}
}

// plain: whether a state and an error are the empty State and this Errno itself.
func plain(t *testing.T, what string, st api.State, err error, want api.Errno) {
	t.Helper()
	if err != error(want) || !reflect.DeepEqual(st, api.State{}) {
		t.Errorf("%s: %+v, %v; want %v", what, st, err, want)
	}
}

// machine: a machine over an image for which there is one.
func machine(t *testing.T, b []byte, workers int) *mount.Machine {
	t.Helper()
	m, err := mount.New(b, workers)
	if m == nil || err != nil {
		t.Fatalf("New(.., %d) = %v, %v", workers, m, err)
	}
	return m
}

// picks: so many picks, most of them workers' own numbers.
func picks(r *rand.Rand, n, workers int) []int {
	l := make([]int, n)
	for i := range l {
		l[i] = r.Intn(workers)
		switch r.Intn(5) {
		case 0:
			l[i] = int(r.Uint64())
		case 1:
			l[i] = wild[r.Intn(len(wild))]
		}
	}
	return l
}

// overlaid: the disk as it is with its journal rolled back.
func overlaid(d *disk) *disk {
	d.t.Helper()
	over, e := journal.Overlay(d.b)
	if e != api.OK {
		d.t.Fatal("Overlay", e)
	}
	return &disk{d.t, d.sh, over}
}
