package journal_test

import (
	"bytes"
	"math"
	"math/rand"
	"reflect"
	"testing"

	"furrow/api"
	"furrow/codec"
	"furrow/layout"
	"furrow/pmem"
)

// small, middling, large: shapes, from the smallest device to the largest one.
var (
	small    = api.Shape{Pages: 24, Inodes: 8, Cores: 1, Data: 5}
	middling = api.Shape{Pages: 40, Inodes: 24, Cores: 3, Data: 7}
	large    = api.Shape{Pages: 1024, Inodes: 256, Cores: 8, Data: 36}
)

// wild: numbers that are no address of a word anywhere; some of them are good ones when their higher bits are cut off.
var wild = []int{-1, -8, -64, -2048, 1<<31 + 2048, 1<<32 + 2048, 1 << 62, math.MaxInt, math.MaxInt - 7, math.MaxInt - 63, math.MinInt, math.MinInt + 1, math.MinInt + 2048, -1<<32 + 2048}

func superLine(sh api.Shape) []byte {
	l, e := layout.PackSuper(api.Super{Pages: sh.Pages, Inodes: sh.Inodes, Cores: sh.Cores})
	if e != api.OK {
		panic("a test's shape isn't good")
	}
	return l[:]
}

// image: a device's bytes: its superblock twice, these words, and zeros.
func image(sh api.Shape, words ...api.Change) []byte {
	b := make([]byte, sh.Pages*512)
	copy(b, superLine(sh))
	copy(b[64:], superLine(sh))
	for _, w := range words {
		copy(b[w.At:], codec.Bytes(w.New))
	}
	return b
}

// filled: a device's bytes with anything at all behind its superblock, but a journal without records.
func filled(r *rand.Rand, sh api.Shape) []byte {
	b := image(sh)
	r.Read(b[128:])
	copy(b[512:], make([]byte, 8))
	return b
}

func load(t *testing.T, b []byte) *pmem.Device {
	t.Helper()
	d, e := pmem.Load(b)
	if d == nil || e != api.OK {
		t.Fatalf("Load of %d bytes: %v", len(b), e)
	}
	return d
}

func word(b []byte, at int) uint64 {
	v, _ := codec.Word(b, at)
	return v
}

func chance() *rand.Rand { return rand.New(rand.NewSource(4)) }

// isTableWord: the chapter's words, inode by inode.
func isTableWord(sh api.Shape, at int) bool {
	for ino := 1; ino <= sh.Inodes; ino++ {
		s := layout.SlotAt(ino)
		if at == s || at == s+8 || at == s+16 {
			return true
		}
	}
	return false
}

// tableWords: the addresses of all table words of a shape.
func tableWords(sh api.Shape) []int {
	var list []int
	for ino := 1; ino <= sh.Inodes; ino++ {
		s := layout.SlotAt(ino)
		list = append(list, s, s+8, s+16)
	}
	return list
}

// changes: of these addresses, to words that differ.
func changes(ats ...int) []api.Change {
	var list []api.Change
	for i, at := range ats {
		list = append(list, api.Change{At: at, New: 0x0123456789ABCDEF + uint64(i)<<7})
	}
	return list
}

// drawn: n changes of a shape, in any order; some to what the words are, some to 0.
func drawn(r *rand.Rand, sh api.Shape, b []byte, n int) []api.Change {
	all := tableWords(sh)
	near := min(len(all), 3+r.Intn(len(all))) // now and then they are crowded into few lines
	var list []api.Change
	for _, i := range r.Perm(max(near, n))[:n] {
		c := api.Change{At: all[i], New: r.Uint64()}
		switch r.Intn(5) {
		case 0:
			c.New = word(b, c.At)
		case 1:
			c.New = 0
		}
		list = append(list, c)
	}
	return list
}

// undoPage: the bytes of a journal with records, up to the last one; the chapters' words, so that records may be any.
func undoPage(list []api.Undo) []byte {
	var words []uint64
	for _, u := range list {
		words = append(words, uint64(u.At), u.Old)
	}
	records := codec.Bytes(words...)
	first := codec.Bytes(codec.Seal(512, uint32(len(list))), codec.Seal(520, codec.Sum(records)))
	return bytes.Join([][]byte{first, make([]byte, 48), records}, nil)
}

// journaled: the image with these records in its journal.
func journaled(b []byte, list ...api.Undo) []byte {
	b = bytes.Clone(b)
	copy(b[512:], undoPage(list))
	return b
}

// act: one step of a device.
type act struct {
	kind byte // 's' a Store, 'f' a Flush, '|' a Fence
	at   int
	v    uint64
}

func (a act) on(d *pmem.Device) api.Errno {
	switch a.kind {
	case 's':
		return d.Store(a.at, a.v)
	case 'f':
		return d.Flush(a.at)
	}
	return d.Fence()
}

func play(t *testing.T, d *pmem.Device, acts []act) {
	t.Helper()
	for i, a := range acts {
		if e := a.on(d); e != api.OK {
			t.Fatalf("step %d (%c %d): %v", i, a.kind, a.at, e)
		}
	}
}

// linesOf: a Flush of each line of a device that holds one of the words, rising.
func linesOf(size int, words []api.Change) []act {
	var acts []act
	for line := 0; line < size; line += 64 {
		for _, w := range words {
			if w.At >= line && w.At < line+64 {
				acts = append(acts, act{'f', line, 0})
				break
			}
		}
	}
	return acts
}

func ended() []act { return []act{{'s', 512, 0}, {'f', 512, 0}, {'|', 0, 0}} }

// committing: the steps of P4.2, in its words. Behind how many of them those of number 5 begin, is told too.
func committing(d *pmem.Device, list []api.Change) (acts []act, fifth int) {
	n := len(list)
	var plain []uint64
	for k, c := range list {
		was, _ := d.Word(c.At)
		acts = append(acts, act{'s', 576 + 16*k, uint64(c.At)}, act{'s', 584 + 16*k, was})
		plain = append(plain, uint64(c.At), was)
	}
	acts = append(acts, act{'s', 520, codec.Seal(520, codec.Sum(codec.Bytes(plain...)))})
	for line := 512; line < 512+64+16*n; line += 64 {
		acts = append(acts, act{'f', line, 0})
	}
	acts = append(acts, act{'|', 0, 0})
	acts = append(acts, act{'s', 512, codec.Seal(512, uint32(n))}, act{'f', 512, 0}, act{'|', 0, 0})
	fifth = len(acts)
	for _, c := range list {
		acts = append(acts, act{'s', c.At, c.New})
	}
	acts = append(acts, linesOf(d.Size(), list)...)
	acts = append(acts, act{'|', 0, 0})
	return append(acts, ended()...), fifth
}

// recovering: the steps of P4.6, in its words.
func recovering(size int, list []api.Undo) []act {
	var acts []act
	var words []api.Change
	for _, u := range list {
		acts = append(acts, act{'s', u.At, u.Old})
		words = append(words, api.Change{At: u.At, New: u.Old})
	}
	acts = append(acts, linesOf(size, words)...)
	acts = append(acts, act{'|', 0, 0})
	return append(acts, ended()...)
}

// alike: whether a device is what another is: its bytes, doubts and steps.
func alike(t *testing.T, what string, d, m *pmem.Device) {
	t.Helper()
	if d.Steps() != m.Steps() || !bytes.Equal(d.View(), m.View()) || !reflect.DeepEqual(d.Doubts(), m.Doubts()) || !bytes.Equal(d.Crash(nil), m.Crash(nil)) {
		t.Errorf("%s: %d steps, doubts %v; want %d, %v", what, d.Steps(), d.Doubts(), m.Steps(), m.Doubts())
	}
}

// still: whether a call did nothing to a device.
func still(t *testing.T, what string, d *pmem.Device, call func()) {
	t.Helper()
	steps, view, doubts := d.Steps(), d.View(), d.Doubts()
	call()
	if d.Steps() != steps || !bytes.Equal(d.View(), view) || !reflect.DeepEqual(d.Doubts(), doubts) {
		t.Errorf("%s: it did %d steps", what, d.Steps()-steps)
	}
}
