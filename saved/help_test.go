package saved_test

import (
	"bytes"
	"math"
	"math/rand"
	"reflect"
	"slices"
	"testing"

	"furrow/api"
	"furrow/codec"
	"furrow/layout"
	"furrow/pmem"
	"furrow/saved"
)

// small, middling, large: shapes, from the smallest device to the largest one.
var (
	small    = api.Shape{Pages: 24, Inodes: 8, Cores: 1, Data: 5}
	middling = api.Shape{Pages: 60, Inodes: 24, Cores: 3, Data: 7}
	large    = api.Shape{Pages: 1024, Inodes: 256, Cores: 8, Data: 36}
)

// wild: numbers that no page and no count is.
var wild = []int{0, -1, -2, -8, -1023, 1024, 1025, 4096, 65536, 65541, 1 << 31, 1 << 32, 1<<32 + 5, 1 << 62, math.MaxInt, math.MaxInt - 5, math.MinInt, math.MinInt + 5, -1<<32 + 5}

func chance() *rand.Rand { return rand.New(rand.NewSource(13)) }

// spans: of From and Count in turn.
func spans(numbers ...int) []api.Span {
	list := []api.Span{}
	for i := 0; i < len(numbers); i += 2 {
		list = append(list, api.Span{From: numbers[i], Count: numbers[i+1]})
	}
	return list
}

// apart: n spans of one page each, with one page between them.
func apart(n int) []api.Span {
	var list []api.Span
	for i := range n {
		list = append(list, api.Span{From: 5 + 2*i, Count: 1})
	}
	return list
}

// drawn: good spans of a device of so many pages, at most most.
func drawn(r *rand.Rand, pages, most int) []api.Span {
	var list []api.Span
	far := 1 + r.Intn(20)
	for at := 5 + r.Intn(far); at < pages && len(list) < most; {
		n := min(1+r.Intn(far), pages-at)
		list = append(list, api.Span{From: at, Count: n})
		at += n + 1 + r.Intn(far)
	}
	return list
}

// goodSpans: the chapter's words, of whole numbers: a From and a Count above 1024 are never good, so that no sum of those left is too great.
func goodSpans(list []api.Span) bool {
	for i, s := range list {
		if s.Count < 1 || s.Count > 1024 || s.From < 5 || s.From > 1023 || s.From+s.Count-1 > 1023 {
			return false
		}
		if i > 0 && s.From <= list[i-1].From+list[i-1].Count {
			return false
		}
	}
	return true
}

func device(t *testing.T, size int) *pmem.Device {
	t.Helper()
	d, e := pmem.New(size)
	if e != api.OK {
		t.Fatal("New", e)
	}
	return d
}

func load(t *testing.T, image []byte) *pmem.Device {
	t.Helper()
	d, e := pmem.Load(image)
	if e != api.OK {
		t.Fatal("Load", e)
	}
	return d
}

// image: the bytes of a device of the shape, its superblock there, all else 0.
func image(sh api.Shape) []byte {
	b := make([]byte, 512*sh.Pages)
	l, _ := layout.PackSuper(api.Super{Pages: sh.Pages, Inodes: sh.Inodes, Cores: sh.Cores})
	copy(b, l[:])
	copy(b[64:], l[:])
	return b
}

// filled: a device's bytes, any at all, with the clean word 0.
func filled(r *rand.Rand, sh api.Shape) []byte {
	b := make([]byte, 512*sh.Pages)
	r.Read(b)
	put(b, 128, 0)
	return b
}

func put(b []byte, at int, w uint64) { copy(b[at:], codec.Bytes(w)) }

// recorded lays a record down in an image.
func recorded(t *testing.T, b []byte, stamp uint32, list []api.Span) []byte {
	t.Helper()
	picture, e := layout.PackSaved(api.Saved{Stamp: stamp, Spans: list})
	if e != api.OK {
		t.Fatal("PackSaved", e)
	}
	copy(b[1024:], picture)
	return b
}

// unmounted: an image of any bytes with a record, and the clean word that names it.
func unmounted(t *testing.T, r *rand.Rand, sh api.Shape, stamp uint32, list []api.Span) []byte {
	t.Helper()
	b := recorded(t, filled(r, sh), stamp, list)
	put(b, 128, codec.Seal(128, stamp))
	return b
}

func saves(t *testing.T, what string, d *pmem.Device, list []api.Span, was bool, no api.Errno) {
	t.Helper()
	if w, e := saved.Save(d, list); w != was || e != no {
		t.Errorf("%s: Save(.., %v) = %v, %v; want %v, %v", what, list, w, e, was, no)
	}
}

func forgets(t *testing.T, what string, d *pmem.Device, no api.Errno) {
	t.Helper()
	if e := saved.Forget(d); e != no {
		t.Errorf("%s: Forget = %v; want %v", what, e, no)
	}
}

// restores: whether Restore with this state's Shape and Free is that error, or these spans and OK.
func restores(t *testing.T, what string, b []byte, sh api.Shape, free []api.Span, no api.Errno) {
	t.Helper()
	l, e := saved.Restore(b, api.State{Shape: sh, Free: free})
	if e != no || no != api.OK && l != nil || no == api.OK && !slices.Equal(l, free) {
		t.Errorf("%s: Restore with %v = %v, %v; want %v", what, free, l, e, no)
	}
}

// act: one step of a device.
type act struct {
	kind byte // 's' a Store, 'f' a Flush, '|' a Fence
	at   int
	v    uint64
}

func (a act) on(d *pmem.Device) api.Errno {
	switch a.kind {
	case 's':
		return d.Store(a.at, a.v)
	case 'f':
		return d.Flush(a.at)
	}
	return d.Fence()
}

func play(t *testing.T, d *pmem.Device, acts []act) {
	t.Helper()
	for i, a := range acts {
		if e := a.on(d); e != api.OK {
			t.Fatalf("step %d (%c %d): %v", i, a.kind, a.at, e)
		}
	}
}

func named(stamp uint32) []act {
	return []act{{'s', 128, codec.Seal(128, stamp)}, {'f', 128, 0}, {'|', 0, 0}}
}

// saving: the steps of P13.2, in its words, with this stamp.
func saving(clean, stamp uint32, list []api.Span) []act {
	var acts []act
	if clean != 0 {
		acts = append(acts, named(0)...)
	}
	picture, _ := layout.PackSaved(api.Saved{Stamp: stamp, Spans: list})
	words, _ := codec.Words(picture)
	for i, w := range words {
		acts = append(acts, act{'s', 1024 + 8*i, w})
	}
	for line := 1024; line < 1024+len(picture); line += 64 {
		acts = append(acts, act{'f', line, 0})
	}
	acts = append(acts, act{'|', 0, 0})
	return append(acts, named(stamp)...)
}

// alike: whether a device is what another is: its bytes, doubts and steps.
func alike(t *testing.T, what string, d, m *pmem.Device) {
	t.Helper()
	if d.Steps() != m.Steps() || !bytes.Equal(d.View(), m.View()) || !reflect.DeepEqual(d.Doubts(), m.Doubts()) || !bytes.Equal(d.Crash(nil), m.Crash(nil)) {
		t.Errorf("%s: %d steps, doubts %v; want %d, %v", what, d.Steps(), d.Doubts(), m.Steps(), m.Doubts())
	}
}

// still: whether a call did nothing to a device.
func still(t *testing.T, what string, d *pmem.Device, call func()) {
	t.Helper()
	steps, view, doubts := d.Steps(), d.View(), d.Doubts()
	call()
	if d.Steps() != steps || !bytes.Equal(d.View(), view) || !reflect.DeepEqual(d.Doubts(), doubts) {
		t.Errorf("%s: it did %d steps", what, d.Steps()-steps)
	}
}

// stepwise: whether Save does just the steps of P13.2 with this stamp, whole, and cut behind each of them.
func stepwise(t *testing.T, what string, b []byte, list []api.Span, stamp uint32) {
	t.Helper()
	clean, _ := codec.Word(b, 128)
	acts := saving(uint32(clean|clean>>32), stamp, list)
	for cut := 0; cut <= len(acts); cut++ {
		d, m := load(t, b), load(t, b)
		d.Arm(cut)
		if cut == len(acts) {
			saves(t, what, d, list, true, api.OK)
		} else {
			saves(t, what, d, list, false, api.ErrDead)
		}
		play(t, m, acts[:cut])
		alike(t, what, d, m)
	}
}

// everyCrash: what a loss of power may leave of the device: all of it, if that is at most most; else the two ends, and some that are drawn.
func everyCrash(r *rand.Rand, d *pmem.Device, most int) [][]byte {
	doubts := d.Doubts()
	all := 1
	for _, w := range doubts {
		all = min(all*(len(w.News)+1), most+1)
	}
	var list [][]byte
	choices := make([]int, len(doubts))
	if all <= most {
		for range all {
			list = append(list, d.Crash(choices))
			for k := range choices { // the next number of the counter
				choices[k]++
				if choices[k] <= len(doubts[k].News) {
					break
				}
				choices[k] = 0
			}
		}
		return list
	}
	list = append(list, d.Crash(nil), d.View())
	for len(list) < most {
		for k := range choices {
			choices[k] = r.Int()
		}
		list = append(list, d.Crash(choices))
	}
	return list
}

// outside: an image's bytes without the clean word and the record's area.
func outside(b []byte) []byte {
	return slices.Concat(b[:128], b[136:1024], b[min(2048, len(b)):])
}
