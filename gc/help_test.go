package gc_test

import (
	"bytes"
	"math"
	"math/rand"
	"reflect"
	"slices"
	"strconv"
	"testing"

	"furrow/api"
	"furrow/codec"
	"furrow/gc"
	"furrow/ilog"
	"furrow/inode"
	"furrow/layout"
	"furrow/pmem"
)

// small, middling, large: shapes, from the smallest device to the largest one.
var (
	small    = api.Shape{Pages: 24, Inodes: 8, Cores: 1, Data: 5}
	middling = api.Shape{Pages: 40, Inodes: 24, Cores: 3, Data: 7}
	large    = api.Shape{Pages: 1024, Inodes: 256, Cores: 8, Data: 36}
)

// wild: numbers that are nothing of a device; some of them are good ones when their higher bits are cut off, or when a sum wraps round.
var wild = []int{-1, -8, -64, -512, -1023, 1<<31 + 2688, 1<<32 + 5, 1<<32 + 7, 1<<32 + 2688, 1 << 62, math.MaxInt, math.MaxInt - 1, math.MaxInt - 63, math.MinInt, math.MinInt + 1, math.MinInt + 2688, -1<<32 + 7}

func chance() *rand.Rand { return rand.New(rand.NewSource(10)) }

func superLine(sh api.Shape) []byte {
	l, e := layout.PackSuper(api.Super{Pages: sh.Pages, Inodes: sh.Inodes, Cores: sh.Cores})
	if e != api.OK {
		panic("a test's shape isn't good")
	}
	return l[:]
}

// filled: a device's bytes with anything at all behind its superblock, but a journal without records.
func filled(r *rand.Rand, sh api.Shape) []byte {
	b := make([]byte, sh.Pages*512)
	r.Read(b)
	copy(b, superLine(sh))
	copy(b[64:], superLine(sh))
	put(b, 512, 0)
	return b
}

// plain: a device with a superblock and zeros.
func plain(t *testing.T, sh api.Shape) *pmem.Device {
	t.Helper()
	b := make([]byte, sh.Pages*512)
	copy(b, superLine(sh))
	copy(b[64:], superLine(sh))
	return load(t, b)
}

func load(t *testing.T, b []byte) *pmem.Device {
	t.Helper()
	d, e := pmem.Load(b)
	if d == nil || e != api.OK {
		t.Fatalf("Load of %d bytes: %v", len(b), e)
	}
	return d
}

func word(b []byte, at int) uint64 {
	v, _ := codec.Word(b, at)
	return v
}

func put(b []byte, at int, w uint64) { copy(b[at:], codec.Bytes(w)) }

// runs: of threes of Off, Page and Count.
func runs(n ...int) []api.Run {
	var l []api.Run
	for i := 0; i < len(n); i += 3 {
		l = append(l, api.Run{Off: n[i], Page: n[i+1], Count: n[i+2]})
	}
	return l
}

// file: example 1's second node, with this size and these runs.
func file(size int, n ...int) api.Node {
	return api.Node{Ino: 2, Kind: api.KindFile, Links: 1, Size: size, Map: runs(n...), Head: 5, Tail: 3584, Log: []int{5, 6}, Entries: 14}
}

// second: example 1's second node.
func second() api.Node { return file(1536, 0, 10, 3) }

// dir: a directory with so many names and a log of so many entries.
func dir(names, entries int) api.Node {
	n := api.Node{Ino: 2, Kind: api.KindDir, Links: 1, Head: 5, Tail: 3072, Log: []int{5}, Entries: entries}
	for i := range names {
		n.Names = append(n.Names, api.Dent{Name: "n" + strconv.Itoa(1000000+i), Ino: 2 + i%7})
	}
	return n
}

// with: the node with something of it changed.
func with(n api.Node, change func(n *api.Node)) api.Node {
	n = copied(n)
	change(&n)
	return n
}

// copied: a node with lists of its own.
func copied(n api.Node) api.Node {
	n.Map, n.Names, n.Log = slices.Clone(n.Map), slices.Clone(n.Names), slices.Clone(n.Log)
	return n
}

// same: two nodes; an empty list and nil are one.
func same(a, b api.Node) bool {
	return a.Ino == b.Ino && a.Kind == b.Kind && a.Links == b.Links && a.Size == b.Size && a.Head == b.Head && a.Tail == b.Tail && a.Entries == b.Entries &&
		slices.Equal(a.Map, b.Map) && slices.Equal(a.Names, b.Names) && slices.Equal(a.Log, b.Log)
}

// none: whether a node is the zero one.
func none(n api.Node) bool { return reflect.DeepEqual(n, api.Node{}) }

func slot(n api.Node) api.Slot {
	return api.Slot{Kind: n.Kind, Links: n.Links, Head: n.Head, Tail: n.Tail}
}

// canon: a good node's canonical entries.
func canon(t *testing.T, n api.Node) []api.Entry {
	t.Helper()
	l, e := inode.Canon(n)
	if e != api.OK {
		t.Fatalf("Canon(%+v): %v", n, e)
	}
	return l
}

// sheets: how many pages n entries fill, counted one by one.
func sheets(n int) int {
	pages := 0
	for i := range n {
		if i%7 == 0 {
			pages++
		}
	}
	return pages
}

// drawnPages: n pages of the data area, in any order, none of these.
func drawnPages(r *rand.Rand, sh api.Shape, n int, not ...int) []int {
	var list []int
	for _, i := range r.Perm(sh.Pages - sh.Data) {
		if p := sh.Data + i; len(list) < n && !slices.Contains(not, p) {
			list = append(list, p)
		}
	}
	return list
}

// act: one step of a device.
type act struct {
	kind byte // 's' a Store, 'f' a Flush, '|' a Fence
	at   int
	v    uint64
}

func (a act) on(d *pmem.Device) api.Errno {
	switch a.kind {
	case 's':
		return d.Store(a.at, a.v)
	case 'f':
		return d.Flush(a.at)
	}
	return d.Fence()
}

// play does the acts till one is refused.
func play(d *pmem.Device, acts []act) api.Errno {
	for _, a := range acts {
		if e := a.on(d); e != api.OK {
			return e
		}
	}
	return api.OK
}

// appending: the steps of 6.3 for an empty log, in the chapter's words, and the slot that it answers.
func appending(n api.Node, entries []api.Entry, pages []int) ([]act, api.Slot) {
	to := api.Slot{Kind: n.Kind, Links: n.Links}
	if len(entries) == 0 {
		return nil, to
	}
	var acts, flushes []act
	for i, p := range pages {
		next := 0
		if i < len(pages)-1 {
			next = pages[i+1]
		}
		acts = append(acts, act{'s', 512 * p, codec.Seal(512*p, uint32(next))}, act{'s', 512*p + 8, codec.Seal(512*p+8, uint32(n.Ino))})
		flushes = append(flushes, act{'f', 512 * p, 0})
	}
	for i, e := range entries {
		at := 512*pages[i/7] + 64*(1+i%7)
		e.Seq = uint64(i + 1)
		line, _ := layout.PackEntry(e)
		for k := range 8 {
			acts = append(acts, act{'s', at + 8*k, word(line[:], 8*k)})
		}
		flushes = append(flushes, act{'f', at, 0})
		to.Tail = at + 64
	}
	to.Head = pages[0]
	return append(append(acts, flushes...), act{'|', 0, 0}), to
}

// committing: the steps of P4.2 for changes of one slot's words, in the chapter's words.
func committing(d *pmem.Device, list []api.Change) []act {
	var acts []act
	var records []uint64
	for k, c := range list {
		was, _ := d.Word(c.At)
		acts = append(acts, act{'s', 576 + 16*k, uint64(c.At)}, act{'s', 584 + 16*k, was})
		records = append(records, uint64(c.At), was)
	}
	acts = append(acts, act{'s', 520, codec.Seal(520, codec.Sum(codec.Bytes(records...)))}, act{'f', 512, 0}, act{'f', 576, 0}, act{'|', 0, 0})
	acts = append(acts, act{'s', 512, codec.Seal(512, uint32(len(list)))}, act{'f', 512, 0}, act{'|', 0, 0})
	for _, c := range list {
		acts = append(acts, act{'s', c.At, c.New})
	}
	acts = append(acts, act{'f', list[0].At / 64 * 64, 0}, act{'|', 0, 0})
	return append(acts, act{'s', 512, 0}, act{'f', 512, 0}, act{'|', 0, 0})
}

// collecting: the steps of P10.4, in its words, how many of them are Append's, and the node that is answered.
func collecting(t *testing.T, d *pmem.Device, n api.Node, pages []int) (acts []act, ahead int, to api.Node) {
	t.Helper()
	es := canon(t, n)
	acts, s := appending(n, es, pages)
	ahead = len(acts)
	line := 2048 + 64*(n.Ino-1)
	var list []api.Change
	if len(es) > 0 {
		list = append(list, api.Change{At: line + 8, New: codec.Seal(line+8, uint32(s.Head))})
	}
	list = append(list, api.Change{At: line + 16, New: codec.Seal(line+16, uint32(s.Tail))})
	to = copied(n)
	to.Head, to.Tail, to.Log, to.Entries = s.Head, s.Tail, slices.Clone(pages), len(es)
	return append(acts, committing(d, list)...), ahead, to
}

// alike: whether a device is what another is: its bytes, doubts and steps.
func alike(t *testing.T, what string, d, m *pmem.Device) {
	t.Helper()
	if d.Steps() != m.Steps() || !bytes.Equal(d.View(), m.View()) || !reflect.DeepEqual(d.Doubts(), m.Doubts()) || !bytes.Equal(d.Crash(nil), m.Crash(nil)) {
		t.Errorf("%s: %d steps, doubts %v; want %d, %v", what, d.Steps(), d.Doubts(), m.Steps(), m.Doubts())
	}
}

// refused: whether Collect answers this error, nothing with it, and has done nothing.
func refused(t *testing.T, what string, d *pmem.Device, sh api.Shape, n api.Node, pages []int, want api.Errno) {
	t.Helper()
	steps, view, doubts := d.Steps(), d.View(), d.Doubts()
	got, e := gc.Collect(d, sh, n, pages)
	if e != want || !none(got) {
		t.Errorf("%s: Collect(%v, %+v, %v) = %+v, %v; want %v", what, sh, n, pages, got, e, want)
	}
	if d.Steps() != steps || !bytes.Equal(d.View(), view) || !reflect.DeepEqual(d.Doubts(), doubts) {
		t.Errorf("%s: it did %d steps", what, d.Steps()-steps)
	}
}

// collects: what a Collect answers that isn't refused.
func collects(t *testing.T, what string, d *pmem.Device, sh api.Shape, n api.Node, pages []int) api.Node {
	t.Helper()
	got, e := gc.Collect(d, sh, n, pages)
	if e != api.OK {
		t.Fatalf("%s: Collect(%v, %+v, %v): %v", what, sh, n, pages, e)
	}
	return got
}

// opened: the slot that the table's line says.
func opened(b []byte, ino int) (api.Slot, api.Errno) {
	at := layout.SlotAt(ino)
	return layout.OpenSlot(ino, [3]uint64{word(b, at), word(b, at+8), word(b, at+16)})
}

// walked: the entries and pages of a log that reads.
func walked(t *testing.T, what string, b []byte, sh api.Shape, ino int, s api.Slot) ([]api.Entry, []int) {
	t.Helper()
	es, ps, e := ilog.Walk(b, sh, ino, s)
	if e != api.OK {
		t.Fatalf("%s: Walk(%v, %d, %v): %v", what, sh, ino, s, e)
	}
	return es, ps
}

// logged: a device's bytes, anything but for a superblock, an empty journal and a slot with a log of these entries in these pages; and the node that it means.
func logged(t *testing.T, r *rand.Rand, sh api.Shape, ino, kind, links int, entries []api.Entry, pages []int) ([]byte, api.Node) {
	t.Helper()
	b := filled(r, sh)
	d := load(t, b)
	s, e := ilog.Append(d, sh, ino, api.Slot{Kind: kind, Links: links}, 0, entries, pages)
	if e != api.OK {
		t.Fatalf("Append(%d, %v, %v): %v", ino, entries, pages, e)
	}
	b = d.View()
	w, _ := layout.PackSlot(ino, s)
	for i, v := range w {
		put(b, layout.SlotAt(ino)+8*i, v)
	}
	n, e := inode.Replay(kind, entries)
	if e != api.OK {
		t.Fatalf("Replay(%d, %v): %v", kind, entries, e)
	}
	n.Ino, n.Links, n.Head, n.Tail, n.Log = ino, links, s.Head, s.Tail, slices.Clone(pages)
	return b, n
}

// drawnLog: n entries that a log of the kind may have, in a shape.
func drawnLog(r *rand.Rand, sh api.Shape, kind, n int) []api.Entry {
	var list []api.Entry
	var names []string
	for len(list) < n {
		e := api.Entry{Kind: 1 + r.Intn(2), Size: r.Intn(12 * 512)}
		switch {
		case kind == api.KindFile && e.Kind == api.EntWrite:
			e.Count = 1 + r.Intn(5)
			e.Off, e.Page = r.Intn(8), sh.Data+r.Intn(sh.Pages-sh.Data-e.Count+1)
			e.Size = max(e.Size, 6*512)
		case kind == api.KindDir && (len(names) == 0 || r.Intn(2) == 0):
			name := "n" + strconv.Itoa(r.Intn(30))
			if slices.Contains(names, name) {
				continue
			}
			names = append(names, name)
			e = api.Entry{Kind: api.EntAdd, Name: name, Ino: 2 + r.Intn(sh.Inodes-1)}
		case kind == api.KindDir:
			i := r.Intn(len(names))
			e = api.Entry{Kind: api.EntDrop, Name: names[i]}
			names = slices.Delete(names, i, i+1)
		}
		list = append(list, e)
	}
	return list
}

// drawnNode: a device's bytes with a log of so many drawn entries, and the node.
func drawnNode(t *testing.T, r *rand.Rand, sh api.Shape, kind, entries int) ([]byte, api.Node) {
	t.Helper()
	ino := 1 + r.Intn(sh.Inodes)
	return logged(t, r, sh, ino, kind, 1, drawnLog(r, sh, kind, entries), drawnPages(r, sh, sheets(entries)))
}
