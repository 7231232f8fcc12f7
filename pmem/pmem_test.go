package pmem_test

import (
	"bytes"
	"math"
	"slices"
	"testing"

	"furrow/api"
	"furrow/pmem"
)

const maxSize = api.MaxPages * api.PageSize

func fresh(t *testing.T, size int) *pmem.Device {
	t.Helper()
	d, e := pmem.New(size)
	if d == nil || e != api.OK {
		t.Fatalf("New(%d) = %v, %v", size, d, e)
	}
	return d
}

func loaded(t *testing.T, image []byte) *pmem.Device {
	t.Helper()
	d, e := pmem.Load(image)
	if d == nil || e != api.OK {
		t.Fatalf("Load(%d bytes) = %v, %v", len(image), d, e)
	}
	return d
}

// pattern: n bytes none of which is equal to its neighbours.
func pattern(n int) []byte {
	b := make([]byte, n)
	for i := range b {
		b[i] = byte(i*7 + i/256 + 1)
	}
	return b
}

func answers(t *testing.T, what string, got, want api.Errno) {
	t.Helper()
	if got != want {
		t.Errorf("%s = %v, want %v", what, got, want)
	}
}

func ok(t *testing.T, list ...api.Errno) {
	t.Helper()
	for i, e := range list {
		if e != api.OK {
			t.Fatalf("call %d = %v, want OK", i, e)
		}
	}
}

func holds(t *testing.T, d *pmem.Device, at int, want uint64) {
	t.Helper()
	if v, e := d.Word(at); v != want || e != api.OK {
		t.Errorf("Word(%d) = %d, %v, want %d, OK", at, v, e, want)
	}
}

func doubt(at int, old uint64, news ...uint64) api.Doubt {
	return api.Doubt{At: at, Old: old, News: news}
}

func doubts(t *testing.T, d *pmem.Device, want ...api.Doubt) {
	t.Helper()
	got := d.Doubts()
	same := slices.EqualFunc(got, want, func(a, b api.Doubt) bool {
		return a.At == b.At && a.Old == b.Old && slices.Equal(a.News, b.News)
	})
	if !same {
		t.Errorf("Doubts() = %v, want %v", got, want)
	}
}

func steps(t *testing.T, d *pmem.Device, want int) {
	t.Helper()
	if got := d.Steps(); got != want {
		t.Errorf("Steps() = %d, want %d", got, want)
	}
}

func dead(t *testing.T, d *pmem.Device, want bool) {
	t.Helper()
	if d.Dead() != want {
		t.Errorf("Dead() = %v, want %v", !want, want)
	}
}

// wordOf: the word at an address of an image.
func wordOf(image []byte, at int) uint64 {
	var v uint64
	for i := 7; i >= 0; i-- {
		v = v<<8 | uint64(image[at+i])
	}
	return v
}

func crashed(t *testing.T, d *pmem.Device, at int, want uint64, choices ...int) {
	t.Helper()
	b := d.Crash(choices)
	if len(b) != d.Size() {
		t.Fatalf("Crash(%v) has %d bytes, want %d", choices, len(b), d.Size())
	}
	if v := wordOf(b, at); v != want {
		t.Errorf("Crash(%v) has %d at %d, want %d", choices, v, at, want)
	}
}

func readsAs(t *testing.T, d *pmem.Device, at, n int, want []byte) {
	t.Helper()
	if b, e := d.Read(at, n); e != api.OK || !bytes.Equal(b, want) {
		t.Errorf("Read(%d, %d) = %v, %v, want %v, OK", at, n, b, e, want)
	}
}

func TestP1_1NewSizes(t *testing.T) {
	for _, size := range []int{512, 1024, 24 * 512, maxSize - 512, maxSize} {
		d := fresh(t, size)
		if d.Size() != size {
			t.Errorf("New(%d) has Size %d", size, d.Size())
		}
		steps(t, d, 0)
		dead(t, d, false)
		doubts(t, d)
		if !bytes.Equal(d.View(), make([]byte, size)) || !bytes.Equal(d.Crash(nil), make([]byte, size)) {
			t.Errorf("New(%d) isn't all 0", size)
		}
	}
	for _, size := range []int{0, 1, 8, 64, 511, 513, 1000, maxSize + 1, maxSize + 512, -1, -512, math.MaxInt, math.MinInt, 1 << 62} {
		if d, e := pmem.New(size); d != nil || e != api.ErrSize {
			t.Errorf("New(%d) = %v, %v, want nil, ErrSize", size, d, e)
		}
	}
}

func TestP1_1Load(t *testing.T) {
	for _, size := range []int{512, 1024, maxSize} {
		image := pattern(size)
		d := loaded(t, image)
		if d.Size() != size {
			t.Errorf("Load(%d bytes) has Size %d", size, d.Size())
		}
		steps(t, d, 0)
		dead(t, d, false)
		doubts(t, d)
		if !bytes.Equal(d.View(), image) || !bytes.Equal(d.Crash(nil), image) {
			t.Errorf("Load(%d bytes) has other bytes", size)
		}
	}
	for _, image := range [][]byte{nil, {}, make([]byte, 1), make([]byte, 64), make([]byte, 511), make([]byte, 513), make([]byte, maxSize+512)} {
		if d, e := pmem.Load(image); d != nil || e != api.ErrSize {
			t.Errorf("Load(%d bytes) = %v, %v, want nil, ErrSize", len(image), d, e)
		}
	}
}

func TestP1_1FreshIsUnmarked(t *testing.T) {
	d := loaded(t, pattern(512))
	ok(t, d.Store(0, 1), d.Fence())
	doubts(t, d, doubt(0, wordOf(pattern(512), 0), 1))
}

func TestP1_2WordsHaveTheirLowByteFirst(t *testing.T) {
	d := loaded(t, append([]byte{1, 2, 3, 4, 5, 6, 7, 0x88}, make([]byte, 504)...))
	holds(t, d, 0, 0x8807060504030201)
	ok(t, d.Store(8, 0x1122334455667788))
	readsAs(t, d, 8, 8, []byte{0x88, 0x77, 0x66, 0x55, 0x44, 0x33, 0x22, 0x11})
	ok(t, d.Store(504, math.MaxUint64))
	holds(t, d, 504, math.MaxUint64)
}

func TestP1_2ReadsAnyBytes(t *testing.T) {
	image := pattern(512)
	d := loaded(t, image)
	ok(t, d.Store(16, 0), d.Store(16, 0xa1a2a3a4a5a6a7a8), d.Store(32, 0xb1b2b3b4b5b6b7b8))
	copy(image[16:], []byte{0xa8, 0xa7, 0xa6, 0xa5, 0xa4, 0xa3, 0xa2, 0xa1})
	copy(image[32:], []byte{0xb8, 0xb7, 0xb6, 0xb5, 0xb4, 0xb3, 0xb2, 0xb1})
	for at := range 48 {
		for n := range 48 {
			readsAs(t, d, at, n, image[at:at+n])
		}
	}
	for at := range 513 {
		readsAs(t, d, at, 0, nil)
		readsAs(t, d, at, 512-at, image[at:])
	}
}

func TestP1_2LookingChangesNothing(t *testing.T) {
	d := fresh(t, 512)
	ok(t, d.Store(8, 7), d.Flush(8), d.Store(8, 9), d.Arm(1))
	look := func() {
		d.Size()
		d.Word(8)
		d.Word(9)
		d.Read(0, 512)
		d.Read(3, 1)
		d.Read(0, 513)
		d.Doubts()
		d.Crash([]int{1})
		d.View()
		d.Steps()
		d.Dead()
	}
	look()
	steps(t, d, 3)
	dead(t, d, false)
	doubts(t, d, doubt(8, 0, 7, 9))
	ok(t, d.Fence())
	dead(t, d, true)
	look()
	steps(t, d, 4)
	doubts(t, d, doubt(8, 7, 9))
	holds(t, d, 8, 9)
	readsAs(t, d, 7, 3, []byte{0, 9, 0})
	if d.Size() != 512 || d.View()[8] != 9 {
		t.Errorf("a dead device isn't seen as it is")
	}
}

func TestP1_3Words(t *testing.T) {
	for _, c := range []struct {
		at   int
		want api.Errno
	}{
		{0, api.OK}, {8, api.OK}, {504, api.OK},
		{1, api.ErrAlign}, {4, api.ErrAlign}, {7, api.ErrAlign}, {508, api.ErrAlign}, {511, api.ErrAlign},
		{512, api.ErrBounds}, {513, api.ErrBounds}, {520, api.ErrBounds}, {-1, api.ErrBounds}, {-4, api.ErrBounds}, {-8, api.ErrBounds},
		{math.MaxInt, api.ErrBounds}, {math.MaxInt - 7, api.ErrBounds}, {math.MinInt, api.ErrBounds}, {1 << 32, api.ErrBounds},
	} {
		d := loaded(t, pattern(512))
		v, e := d.Word(c.at)
		answers(t, "Word", e, c.want)
		if e != api.OK && v != 0 {
			t.Errorf("Word(%d) = %d beside an error", c.at, v)
		}
		answers(t, "Store", d.Store(c.at, 1), c.want)
		untouchedIf(t, d, c.want != api.OK)
	}
}

// untouchedIf: what a call that was refused must leave of loaded(pattern).
func untouchedIf(t *testing.T, d *pmem.Device, refused bool) {
	t.Helper()
	if !refused {
		return
	}
	steps(t, d, 0)
	doubts(t, d)
	if !bytes.Equal(d.View(), pattern(d.Size())) {
		t.Errorf("a call was refused, and changed something")
	}
}

func TestP1_3Flush(t *testing.T) {
	for _, at := range []int{0, 1, 63, 64, 65, 500, 511} {
		d := fresh(t, 512)
		answers(t, "Flush", d.Flush(at), api.OK)
		steps(t, d, 1)
	}
	for _, at := range []int{512, 513, 576, -1, -64, math.MaxInt, math.MinInt} {
		d := loaded(t, pattern(512))
		answers(t, "Flush", d.Flush(at), api.ErrBounds)
		untouchedIf(t, d, true)
	}
}

func TestP1_3Ranges(t *testing.T) {
	for _, c := range []struct {
		at, n int
		want  api.Errno
	}{
		{0, 0, api.OK}, {0, 512, api.OK}, {511, 1, api.OK}, {512, 0, api.OK}, {3, 0, api.OK}, {13, 77, api.OK},
		{0, 513, api.ErrBounds}, {508, 5, api.ErrBounds}, {512, 1, api.ErrBounds}, {513, 0, api.ErrBounds}, {513, -1, api.ErrBounds},
		{-1, 0, api.ErrBounds}, {-1, 1, api.ErrBounds}, {-8, 16, api.ErrBounds}, {0, -1, api.ErrBounds}, {16, -8, api.ErrBounds},
		{1, math.MaxInt, api.ErrBounds}, {math.MaxInt, 1, api.ErrBounds}, {math.MaxInt, math.MaxInt, api.ErrBounds},
		{math.MinInt, math.MinInt, api.ErrBounds}, {math.MinInt, math.MaxInt, api.ErrBounds}, {math.MaxInt, math.MinInt, api.ErrBounds},
		{math.MinInt, 0, api.ErrBounds}, {0, math.MinInt, api.ErrBounds}, {math.MaxInt, 0, api.ErrBounds},
	} {
		d := loaded(t, pattern(512))
		b, e := d.Read(c.at, c.n)
		answers(t, "Read", e, c.want)
		if e != api.OK && b != nil {
			t.Errorf("Read(%d, %d) = %v beside an error", c.at, c.n, b)
		}
		answers(t, "FlushAll", d.FlushAll(c.at, c.n), c.want)
		untouchedIf(t, d, c.want != api.OK)
	}
}

func TestP1_3Write(t *testing.T) {
	for _, c := range []struct {
		at, n int
		want  api.Errno
	}{
		{0, 512, api.OK}, {504, 8, api.OK}, {512, 0, api.OK}, {0, 0, api.OK},
		{4, 8, api.ErrAlign}, {0, 7, api.ErrAlign}, {8, 9, api.ErrAlign}, {4, 4, api.ErrAlign}, {4, 0, api.ErrAlign}, {505, 7, api.ErrAlign},
		{508, 7, api.ErrBounds}, {508, 8, api.ErrBounds}, {512, 8, api.ErrBounds}, {512, 1, api.ErrBounds}, {513, 0, api.ErrBounds}, {520, 0, api.ErrBounds},
		{0, 520, api.ErrBounds}, {-8, 8, api.ErrBounds}, {-8, 0, api.ErrBounds}, {-1, 1, api.ErrBounds}, {-8, 16, api.ErrBounds},
		{math.MaxInt, 8, api.ErrBounds}, {math.MaxInt - 7, 16, api.ErrBounds}, {math.MinInt, 8, api.ErrBounds}, {math.MinInt, 0, api.ErrBounds},
	} {
		d := loaded(t, pattern(512))
		answers(t, "Write", d.Write(c.at, make([]byte, c.n)), c.want)
		untouchedIf(t, d, c.want != api.OK)
	}
}

func TestP1_3WhereStandsAheadOfDead(t *testing.T) {
	d := fresh(t, 512)
	ok(t, d.Arm(0))
	answers(t, "Store(-8)", d.Store(-8, 1), api.ErrBounds)
	answers(t, "Store(513)", d.Store(513, 1), api.ErrBounds)
	answers(t, "Store(1)", d.Store(1, 1), api.ErrAlign)
	answers(t, "Store(0)", d.Store(0, 1), api.ErrDead)
	answers(t, "Flush(512)", d.Flush(512), api.ErrBounds)
	answers(t, "Flush(0)", d.Flush(0), api.ErrDead)
	answers(t, "FlushAll(0, 513)", d.FlushAll(0, 513), api.ErrBounds)
	answers(t, "FlushAll(0, 1)", d.FlushAll(0, 1), api.ErrDead)
	answers(t, "Write(508, 8 bytes)", d.Write(508, make([]byte, 8)), api.ErrBounds)
	answers(t, "Write(4, nothing)", d.Write(4, nil), api.ErrAlign)
	answers(t, "Write(0, 8 bytes)", d.Write(0, make([]byte, 8)), api.ErrDead)
	answers(t, "Fence()", d.Fence(), api.ErrDead)
}

func TestP1_4StoresArePutBehind(t *testing.T) {
	d := loaded(t, pattern(512))
	old := wordOf(pattern(512), 24)
	ok(t, d.Store(24, 3), d.Store(24, 3), d.Store(24, old), d.Store(24, 0), d.Store(24, 3))
	doubts(t, d, doubt(24, old, 3, 3, old, 0, 3))
	ok(t, d.Store(16, 5))
	doubts(t, d, doubt(16, wordOf(pattern(512), 16), 5), doubt(24, old, 3, 3, old, 0, 3))
}

func TestP1_4MarkStays(t *testing.T) {
	d := fresh(t, 512)
	ok(t, d.Store(0, 1), d.Store(0, 2), d.Flush(0), d.Store(0, 3), d.Store(0, 4), d.Fence())
	doubts(t, d, doubt(0, 2, 3, 4))
}

func TestP1_5FlushMarksOneLine(t *testing.T) {
	for at := 64; at < 128; at++ {
		d := fresh(t, 512)
		for word := 56; word <= 128; word += 8 {
			ok(t, d.Store(word, uint64(word)))
		}
		ok(t, d.Flush(at), d.Fence())
		doubts(t, d, doubt(56, 0, 56), doubt(128, 0, 128))
		if v := wordOf(d.Crash(nil), 120); v != 120 {
			t.Fatalf("Flush(%d) and Fence left %d at 120", at, v)
		}
	}
}

func TestP1_5FlushCountsAllNews(t *testing.T) {
	d := fresh(t, 512)
	ok(t, d.Store(0, 1), d.Flush(0), d.Store(0, 2), d.Flush(63), d.Store(0, 3), d.Store(8, 4), d.Fence())
	doubts(t, d, doubt(0, 2, 3), doubt(8, 0, 4))
}

func TestP1_5FlushOfNothing(t *testing.T) {
	d := fresh(t, 512)
	ok(t, d.Flush(0), d.Store(0, 1), d.Fence())
	doubts(t, d, doubt(0, 0, 1))
}

func TestP1_6FenceTakesMarksAway(t *testing.T) {
	d := fresh(t, 512)
	ok(t, d.Store(0, 1), d.Store(0, 2), d.Flush(0), d.Store(0, 3), d.Store(0, 4), d.Store(0, 5), d.Fence())
	doubts(t, d, doubt(0, 2, 3, 4, 5))
	ok(t, d.Fence())
	doubts(t, d, doubt(0, 2, 3, 4, 5))
	ok(t, d.Flush(0), d.Fence())
	doubts(t, d)
	holds(t, d, 0, 5)
	ok(t, d.Store(0, 6), d.Fence())
	doubts(t, d, doubt(0, 5, 6))
}

func TestP1_6FenceGoesForTheWholeDevice(t *testing.T) {
	d := fresh(t, maxSize)
	var want []api.Doubt
	for line := 0; line < maxSize; line += 4096 {
		ok(t, d.Store(line, 1), d.Flush(line), d.Store(line+64, 2))
		want = append(want, doubt(line+64, 0, 2))
	}
	ok(t, d.Fence())
	doubts(t, d, want...)
	for line := 0; line < maxSize; line += 4096 {
		holds(t, d, line, 1)
	}
}

func TestP1_6FewDoubtsAreLeftOfMany(t *testing.T) {
	d := fresh(t, 8192)
	ok(t, d.Store(8, 1), d.Store(8, 2))
	ok(t, d.Write(64, pattern(8192-64)), d.FlushAll(64, 8192-64), d.Store(4096, 3), d.Fence())
	old := wordOf(pattern(8192-64), 4096-64)
	doubts(t, d, doubt(8, 0, 1, 2), doubt(4096, old, 3))
	ok(t, d.Store(16, 4), d.Flush(0), d.Fence())
	doubts(t, d, doubt(4096, old, 3))
	ok(t, d.Write(64, make([]byte, 4096)))
	if n := len(d.Doubts()); n != 512 {
		t.Errorf("%d doubts, want 512", n)
	}
	ok(t, d.FlushAll(0, 8192), d.Fence())
	doubts(t, d)
}

func TestP1_7WriteIsManyStores(t *testing.T) {
	d := fresh(t, 512)
	ok(t, d.Write(16, pattern(24)))
	steps(t, d, 3)
	b := pattern(24)
	doubts(t, d, doubt(16, 0, wordOf(b, 0)), doubt(24, 0, wordOf(b, 8)), doubt(32, 0, wordOf(b, 16)))
	ok(t, d.Write(16, make([]byte, 8)), d.Write(0, nil), d.Write(512, []byte{}))
	steps(t, d, 4)
	holds(t, d, 16, 0)
}

func TestP1_7WriteEndsWhereItDies(t *testing.T) {
	for left := range 5 {
		d := fresh(t, 512)
		ok(t, d.Arm(left))
		want := api.ErrDead
		if left == 4 {
			want = api.OK
		}
		answers(t, "Write", d.Write(64, pattern(32)), want)
		steps(t, d, left)
		dead(t, d, true)
		b := make([]byte, 512)
		copy(b[64:], pattern(8*left))
		if !bytes.Equal(d.View(), b) {
			t.Errorf("with %d steps left Write stored something else", left)
		}
	}
}

func TestP1_7FlushAllIsAFlushALine(t *testing.T) {
	for _, c := range []struct{ at, n, lines int }{
		{0, 0, 0}, {20, 0, 0}, {64, 0, 0}, {512, 0, 0}, {0, 1, 1}, {63, 1, 1}, {63, 2, 2}, {64, 64, 1}, {64, 65, 2}, {127, 1, 1}, {60, 200, 5}, {0, 512, 8}, {511, 1, 1},
	} {
		d := fresh(t, 512)
		ok(t, d.FlushAll(c.at, c.n))
		if d.Steps() != c.lines {
			t.Errorf("FlushAll(%d, %d) did %d steps, want %d", c.at, c.n, d.Steps(), c.lines)
		}
	}
	d := fresh(t, 512)
	for word := 0; word < 512; word += 8 {
		ok(t, d.Store(word, 1))
	}
	ok(t, d.FlushAll(127, 2), d.Fence())
	for _, x := range d.Doubts() {
		if x.At >= 64 && x.At < 192 {
			t.Errorf("FlushAll(127, 2) left %d in doubt", x.At)
		}
	}
	if n := len(d.Doubts()); n != 48 {
		t.Errorf("%d doubts are left, want 48", n)
	}
}

func TestP1_7FlushAllEndsWhereItDies(t *testing.T) {
	d := fresh(t, 512)
	ok(t, d.Arm(2))
	answers(t, "FlushAll", d.FlushAll(100, 300), api.ErrDead)
	steps(t, d, 2)
	dead(t, d, true)
	answers(t, "FlushAll of nothing", d.FlushAll(100, 0), api.OK)
	answers(t, "Write of nothing", d.Write(64, nil), api.OK)
	d = fresh(t, 512)
	ok(t, d.Arm(2))
	answers(t, "FlushAll", d.FlushAll(100, 40), api.OK)
	dead(t, d, true)
}

func TestP1_8Arm(t *testing.T) {
	d := fresh(t, 512)
	answers(t, "Arm(-1)", d.Arm(-1), api.ErrArg)
	answers(t, "Arm(least)", d.Arm(math.MinInt), api.ErrArg)
	ok(t, d.Store(0, 1), d.Fence())
	ok(t, d.Arm(math.MaxInt), d.Store(0, 2), d.Arm(1), d.Arm(3))
	answers(t, "Arm(-1)", d.Arm(-1), api.ErrArg)
	steps(t, d, 3)
	ok(t, d.Store(0, 3), d.Flush(0))
	answers(t, "Store(1)", d.Store(1, 1), api.ErrAlign)
	dead(t, d, false)
	ok(t, d.Fence())
	dead(t, d, true)
	doubts(t, d)
	holds(t, d, 0, 3)
}

func TestP1_8ThereIsNoWayBack(t *testing.T) {
	d := fresh(t, 512)
	ok(t, d.Store(0, 1), d.Flush(0), d.Store(0, 2), d.Arm(0))
	dead(t, d, true)
	for range 2 {
		answers(t, "Store", d.Store(0, 3), api.ErrDead)
		answers(t, "Store of a new word", d.Store(8, 3), api.ErrDead)
		answers(t, "Flush", d.Flush(0), api.ErrDead)
		answers(t, "Fence", d.Fence(), api.ErrDead)
		answers(t, "Arm(9)", d.Arm(9), api.ErrDead)
		answers(t, "Arm(0)", d.Arm(0), api.ErrDead)
		answers(t, "Arm(-1)", d.Arm(-1), api.ErrArg)
		dead(t, d, true)
		steps(t, d, 3)
		doubts(t, d, doubt(0, 0, 1, 2))
	}
}

func TestP1_9Steps(t *testing.T) {
	d := fresh(t, 512)
	ok(t, d.Store(0, 1), d.Store(0, 1), d.Flush(200), d.Fence(), d.Fence())
	steps(t, d, 5)
	ok(t, d.Write(0, make([]byte, 64)), d.FlushAll(0, 128))
	steps(t, d, 15)
	d.Store(3, 1)
	d.Flush(-1)
	d.Write(0, make([]byte, 3))
	d.FlushAll(0, 1000)
	ok(t, d.Arm(1))
	steps(t, d, 15)
	ok(t, d.Fence())
	d.Fence()
	steps(t, d, 16)
	steps(t, loaded(t, d.View()), 0)
}

func TestP1_10DoubtsRise(t *testing.T) {
	d := loaded(t, pattern(maxSize))
	var want []api.Doubt
	for at := 0; at < 4096; at += 8 {
		want = append(want, doubt(at, wordOf(pattern(maxSize), at), uint64(at)))
	}
	for i := len(want) - 1; i >= 0; i-- {
		ok(t, d.Store(want[i].At, want[i].News[0]))
	}
	ok(t, d.Store(maxSize-8, 1), d.Store(maxSize-8, 2))
	want = append(want, doubt(maxSize-8, wordOf(pattern(maxSize), maxSize-8), 1, 2))
	for range 3 {
		doubts(t, d, want...)
	}
}

func TestP1_11Choices(t *testing.T) {
	d := loaded(t, pattern(512))
	old := wordOf(pattern(512), 8)
	ok(t, d.Store(8, 7), d.Store(8, 9))
	for _, c := range []struct {
		choice int
		want   uint64
	}{
		{0, old}, {1, 7}, {2, 9}, {3, old}, {4, 7}, {5, 9}, {-1, 9}, {-2, 7}, {-3, old}, {-4, 9},
		{math.MaxInt, 7}, {math.MaxInt - 1, old}, {math.MinInt, 7}, {math.MinInt + 1, 9}, // 2^63 leaves 2 by 3
	} {
		crashed(t, d, 8, c.want, c.choice)
	}
	crashed(t, d, 8, old)
	if !bytes.Equal(d.Crash(nil), pattern(512)) || !bytes.Equal(d.Crash([]int{}), pattern(512)) {
		t.Errorf("Crash of no choices isn't what is durable")
	}
}

func TestP1_11ChoicesByRisingAddress(t *testing.T) {
	d := fresh(t, 1024)
	ok(t, d.Store(800, 1), d.Store(16, 2), d.Store(64, 3), d.Store(64, 4), d.Store(64, 5))
	ok(t, d.Store(0, 9), d.Flush(0), d.Store(16, 6), d.Fence(), d.Store(0, 9), d.Flush(0))
	doubts(t, d, doubt(0, 9, 9), doubt(16, 2, 6), doubt(64, 0, 3, 4, 5), doubt(800, 0, 1))
	for _, c := range []struct {
		choices []int
		want    [4]uint64
	}{
		{nil, [4]uint64{9, 2, 0, 0}},
		{[]int{1}, [4]uint64{9, 2, 0, 0}},
		{[]int{0, 1}, [4]uint64{9, 6, 0, 0}},
		{[]int{0, 0, 2}, [4]uint64{9, 2, 4, 0}},
		{[]int{0, 0, 3, 1}, [4]uint64{9, 2, 5, 1}},
		{[]int{-1, -1, -1, -1}, [4]uint64{9, 6, 5, 1}},
		{[]int{2, 2, 4, 3, 1, 1, -1}, [4]uint64{9, 2, 0, 1}},
	} {
		for i, at := range []int{0, 16, 64, 800} {
			crashed(t, d, at, c.want[i], c.choices...)
		}
	}
	steps(t, d, 11)
	doubts(t, d, doubt(0, 9, 9), doubt(16, 2, 6), doubt(64, 0, 3, 4, 5), doubt(800, 0, 1))
	ok(t, d.Fence())
	doubts(t, d, doubt(64, 0, 3, 4, 5), doubt(800, 0, 1))
}

func TestP1_12View(t *testing.T) {
	want := pattern(1024)
	d := loaded(t, want)
	ok(t, d.Store(1016, 1), d.Store(1016, 0x0102030405060708), d.Store(8, 0), d.Flush(8), d.Fence())
	copy(want[1016:], []byte{8, 7, 6, 5, 4, 3, 2, 1})
	clear(want[8:16])
	if !bytes.Equal(d.View(), want) {
		t.Errorf("View isn't what was stored last")
	}
	ok(t, d.Arm(0))
	if !bytes.Equal(d.View(), want) {
		t.Errorf("View of a dead device isn't what was stored last")
	}
}

// spoil writes over a list and all its spare room.
func spoil[T any](list []T, v T) {
	list = list[:cap(list)]
	for i := range list {
		list[i] = v
	}
}

func TestP1_13AnswersAreNewMemory(t *testing.T) {
	d := loaded(t, pattern(512))
	old := wordOf(pattern(512), 8)
	ok(t, d.Store(8, 1), d.Store(8, 2), d.Store(8, 3), d.Store(16, 4))
	view := d.View()
	spoilAll := func() {
		b, _ := d.Read(0, 512)
		spoil(b, 0xee)
		b, _ = d.Read(16, 8)
		spoil(b, 0xee)
		spoil(d.Crash([]int{1}), 0xee)
		spoil(d.View(), 0xee)
		for _, x := range d.Doubts() {
			spoil(x.News, 77)
		}
		spoil(d.Doubts(), api.Doubt{At: 1})
	}
	spoilAll()
	doubts(t, d, doubt(8, old, 1, 2, 3), doubt(16, wordOf(pattern(512), 16), 4))
	if !bytes.Equal(d.View(), view) || !bytes.Equal(d.Crash(nil), pattern(512)) {
		t.Errorf("an answer was written to, and the device changed")
	}
	ok(t, d.Flush(0), d.Fence())
	spoilAll()
	if !bytes.Equal(d.View(), view) || !bytes.Equal(d.Crash(nil), view) {
		t.Errorf("an answer was written to, and the device changed")
	}
}

func TestP1_13EarlierAnswersStay(t *testing.T) {
	d := fresh(t, 512)
	ok(t, d.Store(0, 1), d.Store(0, 2))
	list, view, crash := d.Doubts(), d.View(), d.Crash([]int{1})
	read, _ := d.Read(0, 8)
	ok(t, d.Flush(0), d.Store(0, 3), d.Fence(), d.Store(0, 4))
	if len(list) != 1 || !slices.Equal(list[0].News, []uint64{1, 2}) || view[0] != 2 || crash[0] != 1 || read[0] != 2 {
		t.Errorf("the device went on, and an earlier answer changed: %v", list)
	}
}

func TestP1_13ArgumentsAreLeftAlone(t *testing.T) {
	room := pattern(1024)
	d := loaded(t, room[:512])
	choices := []int{5, -7, 9, 11}
	b := pattern(64)
	ok(t, d.Write(0, b[:16]), d.Store(0, 3), d.Flush(0), d.Fence(), d.Store(504, 1))
	d.Crash(choices[:2])
	if !bytes.Equal(room, pattern(1024)) || !bytes.Equal(b, pattern(64)) || !slices.Equal(choices, []int{5, -7, 9, 11}) {
		t.Errorf("an argument was changed")
	}
	view, list := d.View(), d.Doubts()
	spoil(room, 0xee)
	spoil(b, 0xee)
	doubts(t, d, list...)
	if !bytes.Equal(d.View(), view) {
		t.Errorf("an argument was kept")
	}
}

func TestP1_13DevicesAreApart(t *testing.T) {
	image := pattern(512)
	d, e, f := loaded(t, image), loaded(t, image), fresh(t, 512)
	ok(t, d.Store(0, 1), d.Store(8, 2), d.Flush(0), d.Fence(), d.Store(16, 3), d.Arm(0))
	for _, other := range []*pmem.Device{e, f} {
		steps(t, other, 0)
		dead(t, other, false)
		doubts(t, other)
	}
	if !bytes.Equal(e.View(), image) || !bytes.Equal(f.View(), make([]byte, 512)) {
		t.Errorf("what was done to one device is seen in another")
	}
}
