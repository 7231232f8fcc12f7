package ilog_test

import (
	"slices"
	"testing"

	"furrow/api"
	"furrow/codec"
	"furrow/ilog"
	"furrow/pmem"
)

// one: the examples' slot with one entry.
var one = file(5, 2688)

// first: the examples' device behind number 3.
func first(t *testing.T) *pmem.Device {
	t.Helper()
	d := blank(t, small)
	appends(t, d, small, 2, file(0, 0), 0, []api.Entry{size(10)}, []int{5})
	if e := ilog.Commit(d, 2, file(0, 0), one); e != api.OK {
		t.Fatalf("Commit = %v", e)
	}
	return d
}

func TestExample1(t *testing.T) {
	for _, c := range [][3]int{{0, 0, 0}, {0, 1, 1}, {0, 7, 1}, {0, 8, 2}, {2688, 6, 0}, {2688, 7, 1}, {3072, 1, 1}, {2624, 1, -1}, {-1, 0, 0}, {64, 1, -1}} {
		if n := ilog.Need(c[0], c[1]); n != c[2] {
			t.Errorf("Need(%d, %d) = %d, want %d", c[0], c[1], n, c[2])
		}
	}
}

func TestExample2(t *testing.T) {
	d := blank(t, small)
	s := appends(t, d, small, 2, file(0, 0), 0, []api.Entry{size(10)}, []int{5})
	if s != one || d.Steps() != 13 || len(d.Doubts()) != 0 {
		t.Errorf("Append = %v, %d steps, doubts %v", s, d.Steps(), d.Doubts())
	}
	walks(t, "the old slot", d.View(), small, 2, file(0, 0), nil, nil)
	walks(t, "the new one", d.View(), small, 2, s, []api.Entry{{Kind: api.EntSize, Seq: 1, Size: 10}}, []int{5})
}

func TestExample3(t *testing.T) {
	d := first(t)
	v := d.View()
	if d.Steps() != 19 || word(v, 2112) != 0 || word(v, 2120) != codec.Seal(2120, 5) || word(v, 2128) != codec.Seal(2128, 2688) {
		t.Errorf("%d steps, the slot is %x", d.Steps(), v[2112:2136])
	}
	if s, e := opened(v, 2); s != (api.Slot{}) || e != api.OK {
		t.Errorf("the slot there opens as %v, %v", s, e)
	}
}

func TestExample4(t *testing.T) {
	d := first(t)
	s := appends(t, d, small, 2, one, 1, sizes(7), []int{9})
	if s != file(5, 4736) || d.Steps() != 19+69 {
		t.Errorf("Append = %v, %d steps", s, d.Steps()-19)
	}
	m := first(t)
	acts, _ := appending(2, one, 1, sizes(7), []int{9})
	var flushed []int
	for _, a := range acts {
		if a.kind == 'f' {
			flushed = append(flushed, a.at)
		}
	}
	if !slices.Equal(flushed, []int{4608, 2560, 2688, 2752, 2816, 2880, 2944, 3008, 4672}) {
		t.Errorf("the lines are %v", flushed)
	}
	play(m, acts)
	alike(t, "the second Append", d, m)
}

func TestExample5(t *testing.T) {
	d := first(t)
	for _, pages := range [][]int{nil, {5}, {4}, {24}} {
		refuses(t, d, ask{small, 2, one, 1, sizes(7), pages}, api.ErrPages)
	}
	refuses(t, d, ask{small, 2, one, 0, sizes(7), []int{9}}, api.ErrSlot)
	wrong := api.Entry{Kind: api.EntWrite, Count: 1, Page: 4}
	refuses(t, d, ask{small, 2, one, 1, append(sizes(6), wrong), []int{9}}, api.ErrEntry)
	refuses(t, d, ask{small, 2, one, 1, append(sizes(6), wrong), nil}, api.ErrPages)
}

func TestExample6(t *testing.T) {
	two := api.Slot{Kind: api.KindFile, Links: 2, Head: 5, Tail: 2752}
	for _, c := range []struct {
		from, to api.Slot
		at       []int
	}{
		{file(0, 0), one, []int{2120, 2128}},
		{api.Slot{}, file(0, 0), []int{2112, 2128}},
		{one, api.Slot{}, []int{2112}},
		{one, two, []int{2112, 2128}},
	} {
		list, e := ilog.Changes(2, c.from, c.to)
		var at []int
		for _, x := range list {
			at = append(at, x.At)
		}
		if e != api.OK || !slices.Equal(at, c.at) || !slices.Equal(list, differing(2, c.from, c.to)) {
			t.Errorf("Changes(%v, %v) = %v, %v", c.from, c.to, list, e)
		}
	}
}

func TestExample7(t *testing.T) {
	zeros := make([]byte, 24*512)
	breaks(t, "zeros", zeros, small, 2, one, api.ErrHeader)
	breaks(t, "a page of the table", zeros, small, 2, file(4, 2688), api.ErrSlot)
}

func TestExample8(t *testing.T) {
	d := first(t)
	s := appends(t, d, small, 2, one, 1, sizes(7), []int{9})
	for _, c := range []struct {
		name string
		bend func(b []byte)
		want api.Errno
	}{
		{"Next 0", func(b []byte) { put(b, 2560, 0) }, api.ErrLog},
		{"Next 5", func(b []byte) { putSealed(b, 2560, 5) }, api.ErrLog},
		{"a bit of an entry", func(b []byte) { b[2900] ^= 16 }, api.ErrEntry},
		{"entries all alike", func(b []byte) {
			for at := 2688; at < 3072; at += 64 {
				copy(b[at:at+64], b[2624:])
			}
		}, api.ErrLog},
		{"Next 10", func(b []byte) { putSealed(b, 2560, 10) }, api.ErrHeader},
	} {
		b := d.View()
		c.bend(b)
		breaks(t, c.name, b, small, 2, s, c.want)
	}
}
