package saved_test

import (
	"math"
	"slices"
	"testing"

	"furrow/api"
	"furrow/codec"
	"furrow/layout"
	"furrow/saved"
)

func fits(sh api.Shape, size int) bool {
	return sh.Pages >= 24 && sh.Pages <= 1024 && sh.Inodes >= 8 && sh.Inodes <= 256 && sh.Inodes%8 == 0 && sh.Cores >= 1 && sh.Cores <= 8 &&
		sh.Data == 4+sh.Inodes/8 && sh.Pages-sh.Data >= 8 && size == 512*sh.Pages
}

// answer: P13.4 in its words.
func answer(b []byte, st api.State) ([]api.Span, api.Errno) {
	if !fits(st.Shape, len(b)) {
		return nil, api.ErrShape
	}
	w, _ := codec.Word(b, 128)
	stamp, no := codec.Unseal(128, w)
	if no != api.OK || stamp == 0 {
		return nil, api.ErrAbsent
	}
	r, no := layout.OpenSaved(b[1024:2048])
	if no != api.OK {
		return nil, api.ErrSaved
	}
	if r.Stamp != stamp {
		return nil, api.ErrStale
	}
	if !slices.Equal(r.Spans, st.Free) {
		return nil, api.ErrDiffers
	}
	return r.Spans, api.OK
}

// agrees: whether Restore answers what P13.4 says; the error.
func agrees(t *testing.T, what string, b []byte, st api.State) api.Errno {
	t.Helper()
	l, e := saved.Restore(b, st)
	want, no := answer(b, st)
	if e != no || !slices.Equal(l, want) || no != api.OK && l != nil {
		t.Errorf("%s: Restore = %v, %v; want %v, %v", what, l, e, want, no)
	}
	return e
}

func TestP13_4Shapes(t *testing.T) {
	r := chance()
	for _, sh := range []api.Shape{small, middling, large} {
		b := unmounted(t, r, sh, 7, spans(5, 3))
		restores(t, "its shape", b, sh, spans(5, 3), api.OK)
		for _, change := range []func(*api.Shape, int){
			func(s *api.Shape, x int) { s.Pages = x },
			func(s *api.Shape, x int) { s.Inodes = x },
			func(s *api.Shape, x int) { s.Cores = x },
			func(s *api.Shape, x int) { s.Data = x },
		} {
			for _, x := range append([]int{1, 4, 5, 6, 7, 8, 9, 16, 23, 24, 25, 36, 60, 96, 104, 256, 264}, wild...) {
				other := sh
				change(&other, x)
				agrees(t, "another shape", b, api.State{Shape: other, Free: spans(5, 3)})
			}
		}
		for _, n := range []int{0, 1, 64, 128, 136, 512, 1024, 2048, len(b) - 512, len(b) - 1} {
			restores(t, "a shorter image", b[:n], sh, spans(5, 3), api.ErrShape)
		}
		restores(t, "a longer image", append(b, make([]byte, 512)...), sh, spans(5, 3), api.ErrShape)
		restores(t, "no shape", b, api.Shape{}, spans(5, 3), api.ErrShape)
	}
	restores(t, "no bytes", nil, api.Shape{}, nil, api.ErrShape)
	// what is a good shape for the image needn't be that of its superblock
	restores(t, "other inodes", unmounted(t, r, small, 7, spans(5, 3)), api.Shape{Pages: 24, Inodes: 96, Cores: 8, Data: 16}, spans(5, 3), api.OK)
}

func TestP13_4CleanWords(t *testing.T) {
	r := chance()
	b := unmounted(t, r, small, 7, spans(5, 3))
	for _, w := range []uint64{0, 7, 1 << 32, 7 << 32, math.MaxUint64, codec.Seal(120, 7), codec.Seal(136, 7), codec.Seal(0, 7), codec.Seal(128, 7) ^ 1, codec.Seal(128, 7) ^ 1<<63, codec.Seal(128, 7) &^ math.MaxUint32} {
		put(b, 128, w)
		restores(t, "a clean word", b, small, spans(5, 3), api.ErrAbsent)
		restores(t, "a clean word", b, small, nil, api.ErrAbsent)
	}
	for _, stamp := range []uint32{1, 6, 8, 1 << 31, math.MaxUint32} {
		put(b, 128, codec.Seal(128, stamp))
		restores(t, "another stamp", b, small, spans(5, 3), api.ErrStale)
		restores(t, "another stamp", b, small, nil, api.ErrStale)
	}
	put(b, 128, codec.Seal(128, 7))
	restores(t, "its stamp", b, small, spans(5, 3), api.OK)
}

// TestP13_4Order: each of the five, with and without those behind it.
func TestP13_4Order(t *testing.T) {
	r := chance()
	for bits := range 32 {
		b := unmounted(t, r, small, 7, spans(5, 3))
		st := api.State{Shape: small, Free: spans(5, 3)}
		want := api.OK
		for _, f := range []struct {
			spoil func()
			no    api.Errno
		}{
			{func() { st.Free = spans(5, 4) }, api.ErrDiffers},
			{func() { put(b, 128, codec.Seal(128, 6)) }, api.ErrStale},
			{func() { b[1024+24] ^= 1 }, api.ErrSaved},
			{func() { put(b, 128, 6) }, api.ErrAbsent},
			{func() { st.Shape.Cores = 9 }, api.ErrShape},
		} {
			if bits&1 == 1 {
				f.spoil()
				want = f.no
			}
			bits >>= 1
		}
		restores(t, "several", b, st.Shape, st.Free, want)
	}
}

func TestP13_4Records(t *testing.T) {
	r := chance()
	for _, stamp := range []uint32{1, 7, 1 << 31, math.MaxUint32} {
		for _, l := range [][]api.Span{nil, spans(5, 1), spans(5, 1019), spans(1023, 1), apart(248), apart(249)} {
			b := unmounted(t, r, small, stamp, l)
			restores(t, "a record", b, small, l, api.OK)
			restores(t, "others", b, small, append(slices.Clone(l), api.Span{From: 30, Count: 2}), api.ErrDiffers)
			put(b, 1024, 0)
			restores(t, "no record", b, small, l, api.ErrSaved)
		}
	}
}

// TestP13_4Free: as many, and each the same as the one at its place.
func TestP13_4Free(t *testing.T) {
	r := chance()
	l := spans(5, 3, 9, 1, 12, 4)
	b := unmounted(t, r, small, 7, l)
	for _, free := range [][]api.Span{
		nil, spans(), l[:1], l[:2], l[1:], append(slices.Clone(l), l[2]), append(slices.Clone(l), api.Span{}),
		spans(9, 1, 5, 3, 12, 4), spans(12, 4, 9, 1, 5, 3), spans(5, 2, 9, 1, 12, 4), spans(5, 3, 10, 1, 12, 4), spans(5, 3, 9, 1, 12, 5), spans(5, 3, 9, 1, 11, 4), spans(4, 4, 9, 1, 12, 4),
		spans(5, 1, 6, 2, 9, 1, 12, 4), spans(5, 3, 9, 1, 12, 4+1<<16), spans(5+1<<32, 3, 9, 1, 12, 4), spans(3, 5, 9, 1, 12, 4),
	} {
		restores(t, "others", b, small, free, api.ErrDiffers)
	}
	for _, x := range wild {
		for place := range l {
			free := slices.Clone(l)
			free[place].From = x
			restores(t, "others", b, small, free, api.ErrDiffers)
			free = slices.Clone(l)
			free[place].Count = x
			restores(t, "others", b, small, free, api.ErrDiffers)
		}
	}
	restores(t, "the same", b, small, slices.Clone(l), api.OK)
}

// TestP13_4StateAlone: of the state nothing but Shape and Free is looked at.
func TestP13_4StateAlone(t *testing.T) {
	r := chance()
	b := unmounted(t, r, small, 7, spans(5, 3))
	for _, nodes := range [][]api.Node{{}, {{}}, {{Ino: -1, Log: []int{5, 6, 7}}}, {{Ino: 1, Kind: 9, Map: []api.Run{{Off: 1, Page: 5, Count: 3}}}, {Ino: 1}}} {
		l, e := saved.Restore(b, api.State{Shape: small, Nodes: nodes, Free: spans(5, 3)})
		if e != api.OK || !slices.Equal(l, spans(5, 3)) {
			t.Errorf("with the nodes %v: %v, %v", nodes, l, e)
		}
	}
}

// TestP13_4ImageAlone: of the image nothing but the clean word and the record is looked at.
func TestP13_4ImageAlone(t *testing.T) {
	r := chance()
	for range 20 {
		l := drawn(r, 1024, 249)
		b := unmounted(t, r, small, 7, l)
		end := 1024 + 24 + 4*len(l)
		for at := range b {
			if at >= 128 && at < 136 || at >= 1024 && at < end {
				continue
			}
			b[at] = byte(r.Int())
		}
		restores(t, "other bytes elsewhere", b, small, l, api.OK)
	}
}

func TestP13_5Found(t *testing.T) {
	r := chance()
	for _, sh := range []api.Shape{small, middling, large} {
		d := load(t, filled(r, sh))
		for range 30 {
			l := drawn(r, []int{24, 60, 1024}[r.Intn(3)], r.Intn(250))
			saves(t, "P13.5", d, l, true, api.OK)
			restores(t, "View", d.View(), sh, l, api.OK)
			restores(t, "View, others", d.View(), sh, append(slices.Clone(l), api.Span{From: 30, Count: 1}), api.ErrDiffers)
			for _, b := range everyCrash(r, d, 10) {
				restores(t, "Crash", b, sh, l, api.OK)
				if len(l) > 0 {
					restores(t, "Crash, others", b, sh, l[1:], api.ErrDiffers)
				}
			}
		}
	}
}

// TestP13_5InDoubt: words in doubt elsewhere, and in the lines that Save writes too, don't hinder it.
func TestP13_5InDoubt(t *testing.T) {
	r := chance()
	for range 60 {
		d := load(t, unmounted(t, r, small, 7, drawn(r, 24, 249)))
		for range 1 + r.Intn(12) {
			at := []int{0, 8, 120, 128, 128, 136, 1024, 1032, 1040, 1048, 1056, 1080, 1088, 2040, 2048}[r.Intn(15)]
			d.Store(at, []uint64{0, codec.Seal(128, 7), r.Uint64()}[r.Intn(3)])
			if r.Intn(4) == 0 {
				d.Flush(at)
			}
		}
		l := drawn(r, 24, 249)
		saves(t, "in doubt", d, l, true, api.OK)
		for _, b := range append(everyCrash(r, d, 40), d.View()) {
			restores(t, "in doubt", b, small, l, api.OK)
		}
	}
}

func TestP13_7EachBit(t *testing.T) {
	r := chance()
	for _, l := range [][]api.Span{nil, spans(5, 3), spans(5, 3, 9, 15), apart(30), apart(249)} {
		b := unmounted(t, r, small, 7, l)
		var bits []int
		for at := range 8 {
			bits = append(bits, 128+at)
		}
		for at := range 24 + 4*len(l) {
			bits = append(bits, 1024+at)
		}
		for _, at := range bits {
			for bit := range 8 {
				b[at] ^= 1 << bit
				if no := agrees(t, "a bit turned", b, api.State{Shape: small, Free: l}); no == api.OK {
					t.Errorf("%d spans: bit %d of the byte at %d turned: OK", len(l), bit, at)
				}
				b[at] ^= 1 << bit
			}
		}
		restores(t, "turned back", b, small, l, api.OK)
	}
}

// fourBytes: what must stand behind bytes that have the one sum, for the whole to have the other: the check's 32 single steps, each gone back.
func fourBytes(is, want uint32) uint32 {
	register := ^want
	for range 32 {
		if register>>31 == 1 {
			register = (register^0xEDB88320)<<1 | 1
		} else {
			register <<= 1
		}
	}
	return register ^ ^is
}

// TestP13_7AnotherCount: a record that is a good one with a bit of its number of spans turned, too, by the bytes that stand behind it.
func TestP13_7AnotherCount(t *testing.T) {
	r := chance()
	found := 0
	for stamp := uint32(1); found < 3 && stamp < 1<<20; stamp++ {
		l := spans(5, 3, 9, 1)
		b := recorded(t, make([]byte, 24*512), stamp, l)
		sum, _ := codec.Half(b, 1024+20)
		b[1024+16] ^= 1 // three spans
		x := fourBytes(codec.SumOn(codec.Sum(b[1024:1024+20]), b[1024+24:1024+32]), sum)
		more := append(slices.Clone(l), api.Span{From: int(uint16(x)), Count: int(x >> 16)})
		if !goodSpans(more) {
			continue
		}
		found++
		copy(b[1024+32:], codec.Bytes(uint64(x)))
		put(b, 128, codec.Seal(128, stamp))
		restores(t, "turned", b, small, more, api.OK)
		restores(t, "turned", b, small, l, api.ErrDiffers)
		b[1024+16] ^= 1
		restores(t, "as it was", b, small, l, api.OK)
		r.Read(b[2048:])
		restores(t, "as it was", b, small, l, api.OK)
	}
	if found < 3 {
		t.Errorf("only %d such records", found)
	}
}

// TestP13_7AnyBytes: images of which much is right, and something isn't.
func TestP13_7AnyBytes(t *testing.T) {
	r := chance()
	for range 4000 {
		l := drawn(r, 60, r.Intn(8))
		stamp := 1 + uint32(r.Intn(3))
		b := unmounted(t, r, small, stamp, l)
		for range r.Intn(3) {
			switch r.Intn(5) {
			case 0:
				put(b, 128, codec.Seal(128, uint32(r.Intn(4))))
			case 1:
				put(b, 128, r.Uint64())
			case 2:
				b[1024+r.Intn(60)] ^= 1 << r.Intn(8)
			case 3:
				b = recorded(t, b, 1+uint32(r.Intn(3)), drawn(r, 60, r.Intn(8)))
			case 4:
				put(b, 1024+8*r.Intn(8), r.Uint64())
			}
		}
		free := l
		if r.Intn(4) == 0 {
			free = drawn(r, 60, r.Intn(8))
		}
		agrees(t, "any bytes", b, api.State{Shape: small, Free: free})
	}
	b := make([]byte, 24*512)
	for range 100 {
		r.Read(b)
		agrees(t, "any bytes", b, api.State{Shape: small})
	}
}
