package ilog_test

import (
	"bytes"
	"math"
	"math/rand"
	"reflect"
	"slices"
	"strings"
	"testing"

	"furrow/api"
	"furrow/codec"
	"furrow/ilog"
	"furrow/layout"
	"furrow/pmem"
)

// small, middling, large: shapes, from the smallest device to the largest one.
var (
	small    = api.Shape{Pages: 24, Inodes: 8, Cores: 1, Data: 5}
	middling = api.Shape{Pages: 40, Inodes: 24, Cores: 3, Data: 7}
	large    = api.Shape{Pages: 1024, Inodes: 256, Cores: 8, Data: 36}
)

// wild: numbers that are nothing of a device; some of them are good ones when their higher bits are cut off.
var wild = []int{-1, -8, -64, -512, 1<<31 + 2688, 1<<32 + 5, 1<<32 + 2688, 1 << 62, math.MaxInt, math.MaxInt - 63, math.MinInt, math.MinInt + 1, math.MinInt + 2688, -1<<32 + 2688}

func chance() *rand.Rand { return rand.New(rand.NewSource(6)) }

func blank(t *testing.T, s api.Shape) *pmem.Device {
	t.Helper()
	return load(t, make([]byte, s.Pages*512))
}

func load(t *testing.T, b []byte) *pmem.Device {
	t.Helper()
	d, e := pmem.Load(b)
	if d == nil || e != api.OK {
		t.Fatalf("Load of %d bytes: %v", len(b), e)
	}
	return d
}

// filled: a device's bytes that are anything at all.
func filled(r *rand.Rand, s api.Shape) []byte {
	b := make([]byte, s.Pages*512)
	r.Read(b)
	return b
}

func word(b []byte, at int) uint64 {
	v, _ := codec.Word(b, at)
	return v
}

func put(b []byte, at int, w uint64) { copy(b[at:], codec.Bytes(w)) }

// putSealed: the value v, sealed for its address.
func putSealed(b []byte, at, v int) { put(b, at, codec.Seal(at, uint32(v))) }

func file(head, tail int) api.Slot {
	return api.Slot{Kind: api.KindFile, Links: 1, Head: head, Tail: tail}
}

func size(n int) api.Entry { return api.Entry{Kind: api.EntSize, Size: n} }

// sizes: entries that differ.
func sizes(n int) []api.Entry {
	var list []api.Entry
	for i := range n {
		list = append(list, size(100+i))
	}
	return list
}

// numbered: the entries with their places in a log that has count others ahead of them.
func numbered(count int, list []api.Entry) []api.Entry {
	list = slices.Clone(list)
	for i := range list {
		list[i].Seq = uint64(count + i + 1)
	}
	return list
}

// joined: a list of its own with all of these.
func joined[T any](lists ...[]T) []T { return slices.Concat(lists...) }

// drawn: n entries that stand in the shape, with any Seq.
func drawn(r *rand.Rand, s api.Shape, n int) []api.Entry {
	var list []api.Entry
	for range n {
		e := api.Entry{Kind: 1 + r.Intn(4), Seq: r.Uint64()}
		switch e.Kind {
		case api.EntWrite:
			e.Count = 1 + r.Intn(16)
			e.Off = r.Intn(512 - e.Count + 1)
			e.Page = s.Data + r.Intn(s.Pages-s.Data-e.Count+1)
			e.Size = r.Intn(api.MaxSize + 1)
		case api.EntSize:
			e.Size = r.Intn(api.MaxSize + 1)
		case api.EntAdd:
			e.Ino, e.Name = 2+r.Intn(s.Inodes-1), drawnName(r)
		case api.EntDrop:
			e.Name = drawnName(r)
		}
		list = append(list, e)
	}
	return list
}

func drawnName(r *rand.Rand) string {
	b := make([]byte, 1+r.Intn(28))
	for i := range b {
		b[i] = byte(48 + r.Intn(208))
	}
	return string(b)
}

// drawnPages: n pages of the data area, in any order, none of these.
func drawnPages(r *rand.Rand, s api.Shape, n int, not ...int) []int {
	var list []int
	for _, i := range r.Perm(s.Pages - s.Data) {
		if p := s.Data + i; len(list) < n && !slices.Contains(not, p) {
			list = append(list, p)
		}
	}
	return list
}

// isTail: chapter 3's words for a good tail.
func isTail(tail int) bool {
	if tail%64 != 0 || tail < 512 {
		return false
	}
	page := (tail - 1) / 512
	return page >= 5 && page <= api.MaxPages-1 && (tail-1)%512 >= 64
}

// isSlot: chapter 3's words for a good slot.
func isSlot(s api.Slot) bool {
	switch s.Kind {
	case api.KindFree:
		return s.Links == 0 && s.Head == 0 && s.Tail == 0
	case api.KindFile:
		if s.Links < 1 || s.Links > 100 {
			return false
		}
	case api.KindDir:
		if s.Links != 1 {
			return false
		}
	default:
		return false
	}
	return s.Head == 0 && s.Tail == 0 || s.Head >= 5 && s.Head <= 1023 && isTail(s.Tail)
}

// stands: the chapter's words for a slot that stands in a shape.
func stands(sh api.Shape, ino int, s api.Slot) bool {
	if ino < 1 || ino > sh.Inodes || !isSlot(s) || s.Kind == api.KindFree {
		return false
	}
	last := (s.Tail - 1) / 512
	return s.Tail == 0 || s.Head >= sh.Data && s.Head < sh.Pages && last >= sh.Data && last < sh.Pages
}

// entryStands: the chapter's words for an entry that stands in a shape.
func entryStands(sh api.Shape, e api.Entry) bool {
	if _, no := layout.PackEntry(e); no != api.OK {
		return false
	}
	if e.Kind == api.EntWrite && (e.Page < sh.Data || e.Page+e.Count > sh.Pages) {
		return false
	}
	return e.Kind != api.EntAdd || e.Ino <= sh.Inodes
}

// act: one step of a device.
type act struct {
	kind byte // 's' a Store, 'f' a Flush, '|' a Fence
	at   int
	v    uint64
}

func (a act) on(d *pmem.Device) api.Errno {
	switch a.kind {
	case 's':
		return d.Store(a.at, a.v)
	case 'f':
		return d.Flush(a.at)
	}
	return d.Fence()
}

// play does the acts till one is refused.
func play(d *pmem.Device, acts []act) api.Errno {
	for _, a := range acts {
		if e := a.on(d); e != api.OK {
			return e
		}
	}
	return api.OK
}

// appending: the steps of 6.3, in its words, and the slot that it answers.
func appending(ino int, slot api.Slot, count int, entries []api.Entry, pages []int) ([]act, api.Slot) {
	if len(entries) == 0 {
		return nil, slot
	}
	var acts []act
	var flushes []act
	seen := map[int]int{}
	store := func(at int, w uint64) {
		acts = append(acts, act{'s', at, w})
		if seen[at/64]++; seen[at/64] == 1 {
			flushes = append(flushes, act{'f', at / 64 * 64, 0})
		}
	}
	for i, p := range pages {
		next := 0
		if i < len(pages)-1 {
			next = pages[i+1]
		}
		store(512*p, codec.Seal(512*p, uint32(next)))
		store(512*p+8, codec.Seal(512*p+8, uint32(ino)))
	}
	last := (slot.Tail - 1) / 512
	if len(pages) > 0 && slot.Tail != 0 {
		store(512*last, codec.Seal(512*last, uint32(pages[0])))
	}
	at, new := slot.Tail, 0
	for i, e := range entries {
		if at%512 == 0 { // an empty log, or the end of a full page
			at = pages[new]*512 + 64
			new++
		}
		e.Seq = uint64(count + i + 1)
		line, _ := layout.PackEntry(e)
		for k := range 8 {
			store(at+8*k, word(line[:], 8*k))
		}
		at += 64
	}
	acts = append(append(acts, flushes...), act{'|', 0, 0})
	if slot.Tail == 0 {
		slot.Head = pages[0]
	}
	slot.Tail = at
	return acts, slot
}

// committing: the steps of 6.5, in its words.
func committing(ino int, from, to api.Slot) []act {
	if from == to {
		return nil
	}
	line := 2048 + 64*(ino-1)
	var acts []act
	if from.Tail == 0 {
		acts = append(acts, act{'s', line + 8, codec.Seal(line+8, uint32(to.Head))}, act{'f', line, 0}, act{'|', 0, 0})
	}
	return append(acts, act{'s', line + 16, codec.Seal(line+16, uint32(to.Tail))}, act{'f', line, 0}, act{'|', 0, 0})
}

// walking: 6.6 in its words, without a channel.
func walking(b []byte, sh api.Shape, ino int, slot api.Slot) ([]api.Entry, []int, api.Errno) {
	if right, e := layout.Fit(api.Super{Pages: sh.Pages, Inodes: sh.Inodes, Cores: sh.Cores}); e != api.OK || right != sh || len(b) != 512*sh.Pages {
		return nil, nil, api.ErrShape
	}
	if ino < 1 || ino > sh.Inodes || slot != (api.Slot{}) && !stands(sh, ino, slot) {
		return nil, nil, api.ErrSlot
	}
	var entries []api.Entry
	var pages []int
	if slot.Tail == 0 {
		return entries, pages, api.OK
	}
	page, last := slot.Head, (slot.Tail-1)/512
	for {
		if w := word(b, 512*page+8); w != codec.Seal(512*page+8, uint32(ino)) {
			return nil, nil, api.ErrHeader
		}
		next, e := codec.Unseal(512*page, word(b, 512*page))
		if page != last && (e != api.OK || next != 0 && (int(next) < sh.Data || int(next) >= sh.Pages)) {
			return nil, nil, api.ErrHeader
		}
		for at := 512*page + 64; at < 512*page+512 && (page != last || at+64 <= slot.Tail); at += 64 {
			entry, no := layout.OpenEntry(api.Line(b[at : at+64]))
			if no != api.OK || !entryStands(sh, entry) {
				return nil, nil, api.ErrEntry
			}
			entries = append(entries, entry)
			if entry.Seq != uint64(len(entries)) {
				return nil, nil, api.ErrLog
			}
		}
		pages = append(pages, page)
		if page == last {
			return entries, pages, api.OK
		}
		if next == 0 || slices.Contains(pages, int(next)) {
			return nil, nil, api.ErrLog
		}
		page = int(next)
	}
}

// walks: whether Walk reads just these.
func walks(t *testing.T, what string, b []byte, sh api.Shape, ino int, slot api.Slot, entries []api.Entry, pages []int) {
	t.Helper()
	l, p, e := ilog.Walk(b, sh, ino, slot)
	if e != api.OK || !slices.Equal(l, entries) || !slices.Equal(p, pages) {
		t.Errorf("%s: Walk(%v, %d, %v) = %v, %v, %v; want %v, %v", what, sh, ino, slot, l, p, e, entries, pages)
	}
}

// breaks: whether Walk answers this error, and nothing with it.
func breaks(t *testing.T, what string, b []byte, sh api.Shape, ino int, slot api.Slot, want api.Errno) {
	t.Helper()
	if l, p, e := ilog.Walk(b, sh, ino, slot); e != want || l != nil || p != nil {
		t.Errorf("%s: Walk(%v, %d, %v) = %v, %v, %v; want %v", what, sh, ino, slot, l, p, e, want)
	}
}

// appends: what a good Append answers.
func appends(t *testing.T, d *pmem.Device, sh api.Shape, ino int, slot api.Slot, count int, entries []api.Entry, pages []int) api.Slot {
	t.Helper()
	s, e := ilog.Append(d, sh, ino, slot, count, entries, pages)
	if e != api.OK {
		t.Fatalf("Append(%v, %d, %v, %d, %v, %v) = %v", sh, ino, slot, count, entries, pages, e)
	}
	return s
}

// alike: whether a device is what another is: its bytes, doubts and steps.
func alike(t *testing.T, what string, d, m *pmem.Device) {
	t.Helper()
	if d.Steps() != m.Steps() || !bytes.Equal(d.View(), m.View()) || !reflect.DeepEqual(d.Doubts(), m.Doubts()) || !bytes.Equal(d.Crash(nil), m.Crash(nil)) {
		t.Errorf("%s: %d steps, doubts %v; want %d, %v", what, d.Steps(), d.Doubts(), m.Steps(), m.Doubts())
	}
}

// still: whether a call did nothing to a device.
func still(t *testing.T, what string, d *pmem.Device, call func()) {
	t.Helper()
	steps, view, doubts := d.Steps(), d.View(), d.Doubts()
	call()
	if d.Steps() != steps || !bytes.Equal(d.View(), view) || !reflect.DeepEqual(d.Doubts(), doubts) {
		t.Errorf("%s: it did %d steps", what, d.Steps()-steps)
	}
}

// log: an inode's log on a device, as its slot, entries and pages.
type log struct {
	ino     int
	slot    api.Slot
	entries []api.Entry
	pages   []int
}

// opened: the slot that the table's line says.
func opened(b []byte, ino int) (api.Slot, api.Errno) {
	at := layout.SlotAt(ino)
	return layout.OpenSlot(ino, [3]uint64{word(b, at), word(b, at+8), word(b, at+16)})
}

// made: a device with a slot in the table that has an empty log; its other bytes are anything.
func made(t *testing.T, r *rand.Rand, sh api.Shape, ino, kind int) (*pmem.Device, log) {
	t.Helper()
	b := filled(r, sh)
	slot := api.Slot{Kind: kind, Links: 1}
	w, _ := layout.PackSlot(ino, slot)
	at := layout.SlotAt(ino)
	put(b, at, w[0])
	put(b, at+16, w[2]) // the head's word stays anything: it isn't looked at
	return load(t, b), log{ino: ino, slot: slot}
}

// more: the log with entries behind it, written and committed.
func (l log) more(t *testing.T, d *pmem.Device, sh api.Shape, entries []api.Entry, pages []int) log {
	t.Helper()
	s := appends(t, d, sh, l.ino, l.slot, len(l.entries), entries, pages)
	if e := ilog.Commit(d, l.ino, l.slot, s); len(entries) > 0 && e != api.OK {
		t.Fatalf("Commit(%d, %v, %v) = %v", l.ino, l.slot, s, e)
	}
	return log{l.ino, s, joined(l.entries, numbered(len(l.entries), entries)), joined(l.pages, pages)}
}

// grown: the log with n drawn entries behind it, on pages that it hasn't.
func (l log) grown(t *testing.T, r *rand.Rand, d *pmem.Device, sh api.Shape, n int) log {
	t.Helper()
	return l.more(t, d, sh, drawn(r, sh, n), drawnPages(r, sh, ilog.Need(l.slot.Tail, n), l.pages...))
}

func long(n int) string { return strings.Repeat("x", n) }
