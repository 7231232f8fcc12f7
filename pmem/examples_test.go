package pmem_test

import (
	"math"
	"testing"

	"furrow/api"
	"furrow/pmem"
)

// TestExamples: the ten examples of the chapter, one behind the other on one device.
func TestExamples(t *testing.T) {
	d := fresh(t, 512)
	firstStores(t, d)
	flushesAndFences(t, d)
	refusals(t, d)
	deathAmidFlushes(t, d)
	readsOfTheDead(t, d)
	secondAndThirdDevice(t, d)
	sizes(t)
}

// firstStores: examples 1 and 2.
func firstStores(t *testing.T, d *pmem.Device) {
	holds(t, d, 0, 0)
	ok(t, d.Store(8, 7))
	holds(t, d, 8, 7)
	doubts(t, d, doubt(8, 0, 7))
	steps(t, d, 1)
	ok(t, d.Store(8, 9))
	doubts(t, d, doubt(8, 0, 7, 9))
	crashed(t, d, 8, 0)
	for choice, want := range map[int]uint64{1: 7, 2: 9, 3: 0, -1: 9, -2: 7} {
		crashed(t, d, 8, want, choice)
	}
}

// flushesAndFences: examples 3 and 4.
func flushesAndFences(t *testing.T, d *pmem.Device) {
	ok(t, d.Flush(20), d.Store(8, 5), d.Fence())
	doubts(t, d, doubt(8, 9, 5))
	holds(t, d, 8, 5)
	steps(t, d, 5)
	ok(t, d.Fence())
	doubts(t, d, doubt(8, 9, 5))
	ok(t, d.Flush(0), d.Fence())
	doubts(t, d)
	holds(t, d, 8, 5)
	steps(t, d, 8)
}

// refusals: example 5.
func refusals(t *testing.T, d *pmem.Device) {
	answers(t, "Store(4, 1)", d.Store(4, 1), api.ErrAlign)
	for _, at := range []int{512, -8, -4, 513} {
		answers(t, "Store", d.Store(at, 1), api.ErrBounds)
	}
	answers(t, "Store(508, 1)", d.Store(508, 1), api.ErrAlign)
	answers(t, "Flush(512)", d.Flush(512), api.ErrBounds)
	answers(t, "Flush(511)", d.Flush(511), api.OK)
	steps(t, d, 9)
}

// deathAmidFlushes: example 6.
func deathAmidFlushes(t *testing.T, d *pmem.Device) {
	answers(t, "Arm(-1)", d.Arm(-1), api.ErrArg)
	answers(t, "Arm(3)", d.Arm(3), api.OK)
	dead(t, d, false)
	ok(t, d.Store(0, 258))
	answers(t, "FlushAll(0, 200)", d.FlushAll(0, 200), api.ErrDead)
	dead(t, d, true)
	steps(t, d, 12)
	answers(t, "Arm(5)", d.Arm(5), api.ErrDead)
	answers(t, "Arm(-1)", d.Arm(-1), api.ErrArg)
	answers(t, "Store(0, 1)", d.Store(0, 1), api.ErrDead)
	answers(t, "Store(1, 1)", d.Store(1, 1), api.ErrAlign)
	answers(t, "Fence()", d.Fence(), api.ErrDead)
	holds(t, d, 0, 258)
	doubts(t, d, doubt(0, 0, 258))
}

// readsOfTheDead: example 7.
func readsOfTheDead(t *testing.T, d *pmem.Device) {
	readsAs(t, d, 0, 10, []byte{2, 1, 0, 0, 0, 0, 0, 0, 5, 0})
	readsAs(t, d, 512, 0, nil)
	for _, c := range [][2]int{{508, 5}, {513, 0}, {1, math.MaxInt}} {
		if b, e := d.Read(c[0], c[1]); b != nil || e != api.ErrBounds {
			t.Errorf("Read(%d, %d) = %v, %v, want nil, ErrBounds", c[0], c[1], b, e)
		}
	}
	answers(t, "Write(512, nothing)", d.Write(512, nil), api.OK)
}

// secondAndThirdDevice: examples 8 and 9.
func secondAndThirdDevice(t *testing.T, d *pmem.Device) {
	e, f := loaded(t, d.View()), loaded(t, d.Crash(nil))
	doubts(t, e)
	holds(t, e, 0, 258)
	holds(t, f, 0, 0)
	holds(t, f, 8, 5)
	ok(t, e.Write(16, append([]byte{1}, make([]byte, 15)...)))
	doubts(t, e, doubt(16, 0, 1), doubt(24, 0, 0))
	steps(t, e, 2)
	crashed(t, e, 16, 1, 1)
	doubts(t, f)
}

// sizes: example 10.
func sizes(t *testing.T) {
	for _, size := range []int{0, 64, 513, 524800} {
		if d, e := pmem.New(size); d != nil || e != api.ErrSize {
			t.Errorf("New(%d) = %v, %v, want nil, ErrSize", size, d, e)
		}
	}
	fresh(t, 524288)
	if n := loaded(t, make([]byte, 1024)).Size(); n != 1024 {
		t.Errorf("Load(1024 bytes) has Size %d", n)
	}
}
