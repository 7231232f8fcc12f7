package layout_test

import (
	"bytes"
	"math"
	"slices"
	"testing"

	"furrow/api"
	"furrow/layout"
)

// everyAt: the three words of each inode's slot.
func everyAt() []int {
	var list []int
	for ino := 1; ino <= 256; ino++ {
		at := 2048 + 64*(ino-1)
		list = append(list, at, at+8, at+16)
	}
	return list
}

// undos: records of these addresses, with old words that differ.
func undos(ats ...int) []api.Undo {
	var list []api.Undo
	for i, at := range ats {
		list = append(list, api.Undo{At: at, Old: math.MaxUint64 - uint64(i)*0x0123456789ABCDEF})
	}
	return list
}

func records(list []api.Undo) []byte {
	var b []byte
	for _, u := range list {
		b = append(b, low(uint64(u.At), 8)...)
		b = append(b, low(u.Old, 8)...)
	}
	return b
}

// undoBytes: what the chapter says of the journal's page, up to its last record.
func undoBytes(list []api.Undo) []byte {
	b := records(list)
	return join(low(seal(512, uint32(len(list))), 8), low(seal(520, sum(b)), 8), make([]byte, 48), b)
}

// page: the bytes, and others that nobody looks at behind them, up to a page.
func page(b []byte) []byte {
	return join(b, bytes.Repeat([]byte{0xA5}, 512-len(b)))
}

func packsUndo(t *testing.T, list []api.Undo, good bool) {
	t.Helper()
	want, f := []byte(nil), api.ErrUndo
	if good {
		want, f = undoBytes(list), api.OK
	}
	b, e := layout.PackUndo(list)
	if !bytes.Equal(b, want) || e != f {
		t.Errorf("PackUndo(%+v) = %x, %v, want %x, %v", list, b, e, want, f)
	}
}

func opensUndo(t *testing.T, b []byte, want []api.Undo, f api.Errno) {
	t.Helper()
	list, e := layout.OpenUndo(b)
	if !slices.Equal(list, want) || e != f {
		t.Errorf("OpenUndo(%x) = %+v, %v, want %+v, %v", b, list, e, want, f)
	}
}

func TestP3_11EveryAddress(t *testing.T) {
	good := everyAt()
	for at := -64; at <= 20000; at++ {
		packsUndo(t, undos(at), slices.Contains(good, at))
		packsUndo(t, undos(2048+64, at), slices.Contains(good, at) && at != 2048+64)
	}
	for _, at := range append([]int{2048 + 1<<32, math.MinInt + 2048, 2048 + 1<<62}, wild...) {
		packsUndo(t, undos(at), false)
	}
}

func TestP3_11Numbers(t *testing.T) {
	good := everyAt()
	for n := range 40 {
		packsUndo(t, undos(good[len(good)-n:]...), n >= 1 && n <= 8)
		packsUndo(t, undos(good[:n]...), n >= 1 && n <= 8)
	}
	packsUndo(t, nil, false)
	packsUndo(t, []api.Undo{}, false)
	packsUndo(t, make([]api.Undo, 1<<16), false)
}

func TestP3_11NoAddressTwice(t *testing.T) {
	for n := 2; n <= 8; n++ {
		for i := range n {
			for j := range i {
				list := undos(everyAt()[:n]...)
				list[i].At = list[j].At
				packsUndo(t, list, false)
			}
		}
	}
}

func TestP3_11OrderAndOldWords(t *testing.T) {
	packsUndo(t, []api.Undo{{At: 18384, Old: 0}, {At: 2048, Old: 1}, {At: 2064, Old: math.MaxUint64}}, true)
	packsUndo(t, []api.Undo{{At: 2048, Old: 7}, {At: 2056, Old: 7}}, true)
}

func TestP3_12OpensWhatIsGood(t *testing.T) {
	good := everyAt()
	for n := 1; n <= 8; n++ {
		list := undos(good[99 : 99+n]...)
		slices.Reverse(list)
		opensUndo(t, page(undoBytes(list)), list, api.OK)
	}
	for _, at := range good {
		opensUndo(t, page(undoBytes(undos(at))), undos(at), api.OK)
	}
}

func TestP3_12WhatIsNotLookedAt(t *testing.T) {
	list := undos(2048, 2120)
	for at := range 512 {
		b := page(undoBytes(list))
		b[at] ^= 0x41
		if at < 16 || at >= 64 && at < 96 {
			opensUndo(t, b, nil, api.ErrUndo)
		} else {
			opensUndo(t, b, list, api.OK)
		}
	}
}

func TestP3_12NoRecords(t *testing.T) {
	opensUndo(t, make([]byte, 512), nil, api.OK)
	r := chance()
	for range 50 {
		opensUndo(t, join(make([]byte, 8), anyBytes(r, 504)), nil, api.OK)
	}
	b := page(undoBytes(undos(2048)))
	copy(b, make([]byte, 8))
	opensUndo(t, b, nil, api.OK)
}

func TestP3_12NumberOfBytes(t *testing.T) {
	good := undoBytes(undos(2048))
	for _, n := range []int{0, 1, 8, 80, 511, 513, 576, 1024} {
		opensUndo(t, make([]byte, n), nil, api.ErrUndo)
		opensUndo(t, append(slices.Clone(good), make([]byte, 1024)...)[:n], nil, api.ErrUndo)
	}
	opensUndo(t, nil, nil, api.ErrUndo)
}

func TestP3_12NumberOfRecords(t *testing.T) {
	all := undos(everyAt()[:28]...) // as many as a page has room for
	for n := 1; n <= 28; n++ {
		want, f := all[:n], api.OK
		if n > 8 {
			want, f = nil, api.ErrUndo
		}
		opensUndo(t, page(undoBytes(all[:n])), want, f)
	}
	for _, n := range []uint32{9, 29, 1 << 16, 1 << 28, 1 << 31, math.MaxUint32} {
		b := page(undoBytes(all[:8]))
		copy(b, low(seal(512, n), 8))
		opensUndo(t, b, nil, api.ErrUndo)
	}
}

func TestP3_12FirstWord(t *testing.T) {
	b := page(undoBytes(undos(2048)))
	for bit := range 64 {
		bad := slices.Clone(b)
		bad[bit/8] ^= 1 << (bit % 8)
		opensUndo(t, bad, nil, api.ErrUndo)
	}
	for _, w := range []uint64{1, 8, 1 << 32, seal(520, 1), seal(0, 1), math.MaxUint64} {
		bad := slices.Clone(b)
		copy(bad, low(w, 8))
		opensUndo(t, bad, nil, api.ErrUndo)
	}
}

func TestP3_12SecondWord(t *testing.T) {
	list := undos(2048, 2056)
	right := sum(records(list))
	b := page(undoBytes(list))
	for bit := range 64 {
		bad := slices.Clone(b)
		bad[8+bit/8] ^= 1 << (bit % 8)
		opensUndo(t, bad, nil, api.ErrUndo)
	}
	for _, w := range []uint64{0, uint64(right), seal(512, right), seal(520, ^right), seal(520, right+1), seal(520, sum(b[64:80])), seal(520, sum(b[64:]))} {
		bad := slices.Clone(b)
		copy(bad[8:], low(w, 8))
		opensUndo(t, bad, nil, api.ErrUndo)
	}
}

// zeroSum: a record at the address whose sum is 0: its last four bytes bring the register to what is turned to 0.
func zeroSum(at int) []api.Undo {
	back := uint32(math.MaxUint32)
	for range 32 {
		if back&(1<<31) != 0 { // the step joined the polynomial, whose highest bit is set
			back = (back^0xEDB88320)<<1 | 1
		} else {
			back <<= 1
		}
	}
	last := register(records(undos(at))[:12]) ^ back
	return []api.Undo{{At: at, Old: undos(at)[0].Old&math.MaxUint32 | uint64(last)<<32}}
}

func TestP3_12SumOfZero(t *testing.T) {
	list := zeroSum(2112)
	if sum(records(list)) != 0 {
		t.Fatalf("the sum of %+v is %x", list, sum(records(list)))
	}
	packsUndo(t, list, true)
	opensUndo(t, page(undoBytes(list)), list, api.OK)
	b := page(undoBytes(list))
	copy(b[8:], low(uint64(sum(low(520, 8)))<<32, 8))
	opensUndo(t, b, nil, api.ErrUndo)
}

func TestP3_12NoGoodList(t *testing.T) {
	good := everyAt()
	for at := 2000; at <= 2200; at++ {
		want, f := undos(at), api.OK
		if !slices.Contains(good, at) {
			want, f = nil, api.ErrUndo
		}
		opensUndo(t, page(undoBytes(undos(at))), want, f)
	}
	for _, at := range append([]int{0, 8, 512, 18392, 18400, 18432, 18440, 2048 + 1<<32, math.MinInt + 2048}, wild...) {
		opensUndo(t, page(undoBytes(undos(at))), nil, api.ErrUndo)
		opensUndo(t, page(undoBytes(undos(2048, at))), nil, api.ErrUndo)
	}
	for n := 2; n <= 8; n++ {
		list := undos(good[:n]...)
		list[n-1].At = list[0].At
		opensUndo(t, page(undoBytes(list)), nil, api.ErrUndo)
	}
}
