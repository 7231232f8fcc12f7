package mount_test

import (
	"testing"

	"furrow/api"
	"furrow/layout"
)

// fault: one thing that is wrong with the image that family gives, and what is told of it.
type fault struct {
	what  string
	e     api.Errno
	place int
	spoil func(d *disk)
}

// family: the root has a directory 2 with a file 3, and the files 4 and 6.
func family(t *testing.T) *disk {
	t.Helper()
	d := formatted(t, small)
	d.log(1, api.KindDir, 1, []int{5}, add("d", 2), add("g", 4), add("h", 6))
	d.log(2, api.KindDir, 1, []int{6}, add("f", 3))
	d.log(3, api.KindFile, 1, []int{7}, write(0, 2, 10, 700))
	d.log(4, api.KindFile, 1, []int{8}, write(0, 1, 12, 9))
	d.slot(6, api.Slot{Kind: api.KindFile, Links: 1})
	return d
}

// faults in the order in which they are told, those of inodes by the inodes' numbers.
var faults = []fault{
	{"a log that ends early", api.ErrLog, 2, func(d *disk) {
		d.slot(2, api.Slot{Kind: api.KindDir, Links: 1, Head: 6, Tail: 22*512 + 128})
		for i := range 7 {
			e := add("n"+string(rune('a'+i)), 3)
			e.Seq = uint64(i + 1)
			d.line(6, 1+i, e)
		}
		d.hold(6*512, 0)
	}},
	{"a log of nothing", api.ErrMeaning, 4, func(d *disk) { d.log(4, api.KindFile, 1, []int{8}, write(0, 1, 12, 9), drop("a")) }},
	{"a slot", api.ErrSlot, 5, func(d *disk) { d.put(layout.SlotAt(5), 7) }},
	{"a header", api.ErrHeader, 7, func(d *disk) {
		d.slot(7, api.Slot{Kind: api.KindFile, Links: 1, Head: 18, Tail: 18*512 + 128})
		d.hold(18*512+8, 6)
	}},
	{"an entry", api.ErrEntry, 8, func(d *disk) { d.log(8, api.KindFile, 1, []int{19}, sized(9)); d.b[19*512+70] ^= 1 }},
	{"a page twice", api.ErrTwice, 10, func(d *disk) { d.log(3, api.KindFile, 1, []int{7}, write(0, 2, 10, 700), write(1, 2, 10, 1500)) }},
	{"a page of two", api.ErrTwice, 12, func(d *disk) { d.log(6, api.KindFile, 1, []int{17}, write(0, 1, 12, 700)) }},
	{"no root", api.ErrRoot, 1, func(d *disk) { d.slot(1, api.Slot{}) }},
	{"a name that hangs", api.ErrHang, 2, func(d *disk) {
		d.log(2, api.KindDir, 1, []int{6}, add("f", 3), drop("f"), add("ff", 3), add("x", 5))
	}},
	{"a count", api.ErrCount, 6, func(d *disk) {
		d.slot(6, api.Slot{Kind: api.KindFile, Links: 2})
	}},
	{"a ring", api.ErrLost, 7, func(d *disk) {
		d.log(7, api.KindDir, 1, []int{20}, add("x", 8))
		d.log(8, api.KindDir, 1, []int{21}, add("y", 7))
	}},
}
