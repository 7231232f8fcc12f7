package codec_test

import (
	"bytes"
	"math"
	"math/rand"
	"slices"
	"testing"

	"furrow/api"
	"furrow/codec"
)

const poly = 0xEDB88320

// taken: the register behind the bytes, bit by bit as P2.1 defines it.
func taken(register uint32, b []byte) uint32 {
	for _, x := range b {
		register ^= uint32(x)
		for range 8 {
			if register&1 == 1 {
				register = register>>1 ^ poly
			} else {
				register >>= 1
			}
		}
	}
	return register
}

func defined(b []byte) uint32 { return ^taken(math.MaxUint32, b) }

func chance() *rand.Rand { return rand.New(rand.NewSource(2)) }

func anyBytes(r *rand.Rand, n int) []byte {
	b := make([]byte, n)
	for i := range b {
		b[i] = byte(r.Intn(256))
	}
	return b
}

func anyLine(r *rand.Rand) api.Line { return api.Line(anyBytes(r, api.LineSize)) }

// low: n bytes of a number, least byte first.
func low(v uint64, n int) []byte {
	var b []byte
	for range n {
		b = append(b, byte(v%256))
		v /= 256
	}
	return b
}

// turned: b with the bits of run turned from bit first on, counted byte by byte from the lowest; bits behind its end are left out.
func turned(b []byte, first int, run uint32) []byte {
	own := bytes.Clone(b)
	for i := range 32 {
		bit := first + i
		if run>>i&1 == 1 && bit < 8*len(own) {
			own[bit/8] ^= 1 << (bit % 8)
		}
	}
	return own
}

// runs: some patterns of at most 32 bits, each with its lowest one set.
func runs(r *rand.Rand) []uint32 {
	list := []uint32{1, 3, 0x80000001, 0xFFFFFFFF, 0x00010001, poly | 1}
	for range 10 {
		list = append(list, r.Uint32()|1)
	}
	return list
}

// addresses: edges of an int, and some between.
var addresses = []int{0, 1, 7, 8, 64, api.CleanAt, api.JournalAt, api.TableAt, api.TableAt + 8, 524280, 1 << 31, 1 << 32, 1<<32 + 8, -1, -8, math.MaxInt, math.MinInt}

// values: edges of a half, and some between; none is 0.
var values = []uint32{1, 2, 3, 5, 255, 256, 258, 1 << 16, poly, 1 << 31, math.MaxInt32, math.MaxUint32 - 1, math.MaxUint32}

func unseals(t *testing.T, at int, w uint64, want uint32, e api.Errno) {
	t.Helper()
	if v, got := codec.Unseal(at, w); v != want || got != e {
		t.Errorf("Unseal(%d, %#x) = %#x, %v, want %#x, %v", at, w, v, got, want, e)
	}
}

func TestP2_1KnownSums(t *testing.T) {
	for text, want := range map[string]uint32{
		"":                 0,
		"a":                0xE8B7BE43,
		"123456789":        0xCBF43926,
		"\x00":             0xD202EF8D,
		"\xFF\xFF\xFF\xFF": 0xFFFFFFFF,
		"The quick brown fox jumps over the lazy dog": 0x414FA339,
	} {
		if got := codec.Sum([]byte(text)); got != want {
			t.Errorf("Sum(%q) = %#x, want %#x", text, got, want)
		}
	}
}

func TestP2_1NoBytes(t *testing.T) {
	if codec.Sum(nil) != 0 || codec.Sum([]byte{}) != 0 {
		t.Errorf("Sum of no bytes = %#x, %#x", codec.Sum(nil), codec.Sum([]byte{}))
	}
}

func TestP2_1EveryByte(t *testing.T) {
	for x := range 256 {
		for _, b := range [][]byte{{byte(x)}, {0, byte(x)}, {byte(x), 0xFF}, {7, byte(x), 9, 0}} {
			if got, want := codec.Sum(b), defined(b); got != want {
				t.Errorf("Sum(%x) = %#x, want %#x", b, got, want)
			}
		}
	}
}

func TestP2_1AsDefined(t *testing.T) {
	r := chance()
	for _, n := range []int{2, 3, 4, 5, 12, 59, 60, 61, 64, 255, 256, 257, 512, 1 << 20} {
		b := anyBytes(r, n)
		if got, want := codec.Sum(b), defined(b); got != want {
			t.Errorf("Sum of %d bytes = %#x, want %#x", n, got, want)
		}
	}
}

func TestP2_2GoesOn(t *testing.T) {
	r := chance()
	for _, s := range []uint32{0, 1, 77, 1 << 31, poly, math.MaxUint32, r.Uint32()} {
		if codec.SumOn(s, nil) != s || codec.SumOn(s, []byte{}) != s {
			t.Errorf("SumOn(%#x, no bytes) = %#x, %#x", s, codec.SumOn(s, nil), codec.SumOn(s, []byte{}))
		}
		for _, n := range []int{1, 2, 12, 100} {
			b := anyBytes(r, n)
			if got, want := codec.SumOn(s, b), ^taken(^s, b); got != want {
				t.Errorf("SumOn(%#x, %x) = %#x, want %#x", s, b, got, want)
			}
		}
	}
}

func TestP2_2EveryCut(t *testing.T) {
	b := anyBytes(chance(), 70)
	want := defined(b)
	if got := codec.SumOn(0, b); got != want {
		t.Errorf("SumOn(0, b) = %#x, want %#x", got, want)
	}
	for cut := range len(b) + 1 {
		if got := codec.SumOn(codec.Sum(b[:cut]), b[cut:]); got != want {
			t.Errorf("cut at %d: %#x, want %#x", cut, got, want)
		}
	}
}

func TestP2_3ThreeListsJoined(t *testing.T) {
	r := chance()
	for _, n := range []int{0, 1, 7, 64, 200} {
		a, b, c, joined := anyBytes(r, n), anyBytes(r, n), anyBytes(r, n), make([]byte, n)
		for i := range joined {
			joined[i] = a[i] ^ b[i] ^ c[i]
		}
		if got, want := codec.Sum(joined), codec.Sum(a)^codec.Sum(b)^codec.Sum(c); got != want {
			t.Errorf("%d bytes: %#x, want %#x", n, got, want)
		}
	}
}

func TestP2_3RunsOf32BitsAreSeen(t *testing.T) {
	r := chance()
	for _, n := range []int{1, 4, 5, 40} {
		b := anyBytes(r, n)
		for first := range 8 * n {
			for _, run := range runs(r) {
				if codec.Sum(turned(b, first, run)) == codec.Sum(b) {
					t.Errorf("%d bytes: the bits %#x from %d on aren't seen", n, run, first)
				}
			}
		}
	}
}

func TestP2_4EveryPlace(t *testing.T) {
	all := anyBytes(chance(), 40)
	for n := range 21 {
		b := all[:n] // what lies behind its end, in the spare room, isn't b's
		for at := -12; at <= n+12; at++ {
			var half, word uint64
			halfErr, wordErr := api.ErrShort, api.ErrShort
			if at >= 0 && at+4 <= n {
				half, halfErr = fromLow(all[at:at+4]), api.OK
			}
			if at >= 0 && at+8 <= n {
				word, wordErr = fromLow(all[at:at+8]), api.OK
			}
			if v, e := codec.Half(b, at); uint64(v) != half || e != halfErr {
				t.Errorf("Half of %d bytes at %d = %#x, %v, want %#x, %v", n, at, v, e, half, halfErr)
			}
			if v, e := codec.Word(b, at); v != word || e != wordErr {
				t.Errorf("Word of %d bytes at %d = %#x, %v, want %#x, %v", n, at, v, e, word, wordErr)
			}
		}
	}
}

// fromLow: the number whose bytes these are, least byte first.
func fromLow(b []byte) uint64 {
	var v uint64
	for _, x := range slices.Backward(b) {
		v = v*256 + uint64(x)
	}
	return v
}

func TestP2_4FarPlaces(t *testing.T) {
	for _, b := range [][]byte{nil, {}, make([]byte, 3), make([]byte, 4), make([]byte, 8), make([]byte, 100)} {
		for k := range 10 {
			for _, at := range []int{math.MinInt + k, math.MaxInt - k, math.MinInt32 - k, math.MaxInt32 + k, 1<<32 + k, -1 - k} {
				if v, e := codec.Half(b, at); v != 0 || e != api.ErrShort {
					t.Errorf("Half of %d bytes at %d = %#x, %v", len(b), at, v, e)
				}
				if v, e := codec.Word(b, at); v != 0 || e != api.ErrShort {
					t.Errorf("Word of %d bytes at %d = %#x, %v", len(b), at, v, e)
				}
			}
		}
	}
}

func TestP2_4GreatestNumbers(t *testing.T) {
	b := bytes.Repeat([]byte{0xFF}, 8)
	if v, e := codec.Half(b, 4); v != math.MaxUint32 || e != api.OK {
		t.Errorf("Half = %#x, %v", v, e)
	}
	if v, e := codec.Word(b, 0); v != math.MaxUint64 || e != api.OK {
		t.Errorf("Word = %#x, %v", v, e)
	}
}

func TestP2_5BytesOfWords(t *testing.T) {
	for _, words := range [][]uint64{nil, {}, {0}, {1}, {math.MaxUint64}, {1 << 63, 0, 0x0102030405060708}, {9, 9, 9, 9, 1 << 32}} {
		var want []byte
		for _, w := range words {
			want = append(want, low(w, 8)...)
		}
		if got := codec.Bytes(words...); !bytes.Equal(got, want) {
			t.Errorf("Bytes(%x) = %x, want %x", words, got, want)
		}
	}
	if got := codec.Bytes(); len(got) != 0 {
		t.Errorf("Bytes() = %x", got)
	}
}

func TestP2_6WordsAndBytesAreInverse(t *testing.T) {
	b := anyBytes(chance(), 300)
	for n := range len(b) {
		words, e := codec.Words(b[:n])
		if n%8 != 0 {
			if words != nil || e != api.ErrShort {
				t.Errorf("Words of %d bytes = %x, %v", n, words, e)
			}
			continue
		}
		if len(words) != n/8 || e != api.OK {
			t.Fatalf("Words of %d bytes = %x, %v", n, words, e)
		}
		for i, w := range words {
			if want := fromLow(b[8*i : 8*i+8]); w != want {
				t.Errorf("Words of %d bytes: word %d is %#x, want %#x", n, i, w, want)
			}
		}
		if back := codec.Bytes(words...); !bytes.Equal(back, b[:n]) {
			t.Errorf("Bytes(Words(%x)) = %x", b[:n], back)
		}
		if again, e := codec.Words(codec.Bytes(words...)); !slices.Equal(again, words) || e != api.OK {
			t.Errorf("Words(Bytes(%x)) = %x, %v", words, again, e)
		}
	}
}

func TestP2_6Lines(t *testing.T) {
	b := anyBytes(chance(), 5*64+1)
	for n := range len(b) {
		lines, e := codec.Lines(b[:n])
		if n%64 != 0 {
			if lines != nil || e != api.ErrShort {
				t.Errorf("Lines of %d bytes = %x, %v", n, lines, e)
			}
			continue
		}
		if len(lines) != n/64 || e != api.OK {
			t.Fatalf("Lines of %d bytes = %x, %v", n, lines, e)
		}
		for i, l := range lines {
			if !bytes.Equal(l[:], b[64*i:64*i+64]) {
				t.Errorf("Lines of %d bytes: line %d is %x", n, i, l)
			}
		}
	}
}

func TestP2_6NoBytes(t *testing.T) {
	for _, b := range [][]byte{nil, {}} {
		if words, e := codec.Words(b); len(words) != 0 || e != api.OK {
			t.Errorf("Words = %x, %v", words, e)
		}
		if lines, e := codec.Lines(b); len(lines) != 0 || e != api.OK {
			t.Errorf("Lines = %x, %v", lines, e)
		}
	}
}

func TestP2_7Close(t *testing.T) {
	r := chance()
	for range 50 {
		l := anyLine(r)
		want := slices.Concat(l[:60], low(uint64(defined(l[:60])), 4))
		got := codec.Close(l)
		if !bytes.Equal(got[:], want) {
			t.Errorf("Close(%x) = %x, want %x", l, got, want)
		}
		if !codec.Whole(got) || codec.Close(got) != got {
			t.Errorf("Close(%x) isn't whole", l)
		}
		if codec.Whole(l) != (got == l) {
			t.Errorf("Whole(%x) = %v", l, codec.Whole(l))
		}
		other := l
		copy(other[60:], anyBytes(r, 4))
		if codec.Close(other) != got {
			t.Errorf("the last four bytes of %x count", other)
		}
	}
}

func TestP2_7ZerosArentWhole(t *testing.T) {
	var zeros api.Line
	if codec.Whole(zeros) {
		t.Error("the line of zeros is whole")
	}
	if got, want := codec.Close(zeros), (api.Line{60: 0x08, 61: 0x89, 62: 0x12, 63: 0x04}); got != want {
		t.Errorf("Close of zeros = %x, want %x", got, want)
	}
}

func TestP2_7EveryBitOfTheSumCounts(t *testing.T) {
	l := codec.Close(anyLine(chance()))
	for bit := range 32 {
		spoilt := l
		spoilt[60+bit/8] ^= 1 << (bit % 8)
		if codec.Whole(spoilt) {
			t.Errorf("bit %d of the sum doesn't count", bit)
		}
	}
}

func TestP2_8OneSumOfAllWholeLines(t *testing.T) {
	r := chance()
	for range 50 {
		l := codec.Close(anyLine(r))
		if s := codec.Sum(l[:]); s != 0x2144DF1C {
			t.Errorf("the sum of the whole line %x is %#x", l, s)
		}
		l[r.Intn(64)] ^= byte(1 + r.Intn(255))
		if whole, sum := codec.Whole(l), codec.Sum(l[:]); whole || sum == 0x2144DF1C {
			t.Errorf("the spoilt line %x: whole %v, sum %#x", l, whole, sum)
		}
	}
}

func TestP2_8SpoiltRunsAreSeen(t *testing.T) {
	r := chance()
	l := codec.Close(anyLine(r))
	for first := range 512 {
		for _, run := range runs(r) {
			if codec.Whole(api.Line(turned(l[:], first, run))) {
				t.Errorf("the bits %#x from %d on aren't seen", run, first)
			}
		}
	}
}

func TestP2_9Seal(t *testing.T) {
	for _, at := range addresses {
		if w := codec.Seal(at, 0); w != 0 {
			t.Errorf("Seal(%d, 0) = %#x", at, w)
		}
		for _, v := range values {
			check := defined(slices.Concat(low(uint64(at), 8), low(uint64(v), 4)))
			if got, want := codec.Seal(at, v), uint64(check)<<32|uint64(v); got != want {
				t.Errorf("Seal(%d, %#x) = %#x, want %#x", at, v, got, want)
			}
		}
	}
}

func TestP2_10WhatSealTook(t *testing.T) {
	for _, at := range addresses {
		unseals(t, at, 0, 0, api.OK)
		for _, v := range values {
			unseals(t, at, codec.Seal(at, v), v, api.OK)
		}
	}
}

func TestP2_10NoValue(t *testing.T) {
	for _, at := range addresses {
		unseals(t, at, 1<<32, 0, api.ErrSeal)
		unseals(t, at, 1<<63, 0, api.ErrSeal)
		unseals(t, at, uint64(defined(slices.Concat(low(uint64(at), 8), low(0, 4))))<<32, 0, api.ErrSeal)
	}
}

func TestP2_10EveryBitCounts(t *testing.T) {
	for _, at := range addresses {
		for _, v := range values {
			w := codec.Seal(at, v)
			for bit := range 64 {
				if w^1<<bit != 0 {
					unseals(t, at, w^1<<bit, 0, api.ErrSeal)
				}
			}
		}
	}
}

// silent: the value whose check at an address is 0, found by going back through the shifts.
func silent(at int) uint32 {
	back := uint32(math.MaxUint32)
	for range 32 {
		if back>>31 == 1 {
			back = (back^poly)<<1 | 1
		} else {
			back <<= 1
		}
	}
	return back ^ taken(math.MaxUint32, low(uint64(at), 8))
}

func TestP2_10CheckThatIsZero(t *testing.T) {
	for _, at := range addresses {
		v := silent(at)
		if w := codec.Seal(at, v); v == 0 || w != uint64(v) {
			t.Fatalf("Seal(%d, %#x) = %#x, want a check of 0", at, v, w)
		}
		unseals(t, at, uint64(v), v, api.OK)
		unseals(t, at, uint64(v^1), 0, api.ErrSeal)
	}
}

func TestP2_11HalvesOfTwoWords(t *testing.T) {
	all := append([]uint32{0}, values...)
	for _, at := range addresses {
		for _, a := range append(all, silent(at)) {
			for _, b := range all {
				one, other := codec.Seal(at, a), codec.Seal(at, b)
				mixed := other>>32<<32 | one&math.MaxUint32
				_, e := codec.Unseal(at, mixed)
				if opens := mixed == one || mixed == other; opens != (e == api.OK) {
					t.Errorf("at %d, low half of %#x, high half of %#x: %v", at, one, other, e)
				}
			}
		}
	}
}

func TestP2_11OtherAddresses(t *testing.T) {
	r := chance()
	for _, at := range addresses {
		for first := range 64 {
			for _, run := range runs(r) {
				other := int(uint64(at) ^ uint64(run)<<first)
				for _, v := range values {
					unseals(t, other, codec.Seal(at, v), 0, api.ErrSeal)
				}
			}
		}
	}
}

func TestP2_11AddressesOfADevice(t *testing.T) {
	w := codec.Seal(api.TableAt, 77)
	for at := 0; at < api.MaxPages*api.PageSize; at += api.WordSize {
		if at != api.TableAt {
			unseals(t, at, w, 0, api.ErrSeal)
		}
	}
}
