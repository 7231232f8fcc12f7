package saved_test

import (
	"bytes"
	"math"
	"slices"
	"testing"

	"furrow/api"
	"furrow/codec"
	"furrow/pmem"
	"furrow/saved"
)

// spoil changes all of a list and of its spare room.
func spoil[T any](list []T, v T) {
	list = list[:cap(list)]
	for i := range list {
		list[i] = v
	}
}

func TestP13_8ArgumentsAreLeftAlone(t *testing.T) {
	r := chance()
	list := append(apart(252), spans(5, 3, -1, 7)...)
	list0 := slices.Clone(list)
	b := append(unmounted(t, r, small, 7, list[:9]), bytes.Repeat([]byte{0x5A}, 700)...)
	b0 := bytes.Clone(b)
	d := load(t, make([]byte, 24*512))
	for n := range list {
		saved.Save(d, list[:n])
		saved.Restore(b[:24*512], api.State{Shape: small, Free: list[:n]})
		saved.Restore(d.View(), api.State{Shape: small, Free: list[:n]})
	}
	for _, n := range []int{0, 512, 24*512 + 512} {
		saved.Restore(b[:n], api.State{Shape: small, Free: list[:9]})
	}
	d.Arm(7)
	saved.Save(d, list[:9])
	if !slices.Equal(list, list0) {
		t.Error("a list of spans was changed, or its spare room")
	}
	if !bytes.Equal(b, b0) {
		t.Error("an image was changed, or its spare room")
	}
}

func TestP13_8AnswersAreNewMemory(t *testing.T) {
	r := chance()
	for _, l := range [][]api.Span{nil, spans(5, 3), spans(5, 3, 9, 1), apart(249)} {
		b := slices.Grow(unmounted(t, r, small, 7, l), 600)
		b0 := bytes.Clone(b)
		free := slices.Grow(slices.Clone(l), 8)
		one, _ := saved.Restore(b, api.State{Shape: small, Free: free})
		two, _ := saved.Restore(b, api.State{Shape: small, Free: free})
		spoil(one, api.Span{From: 1, Count: 1})
		if !slices.Equal(two, l) || !slices.Equal(free, l) || !bytes.Equal(b, b0) {
			t.Errorf("%d spans: a change of the answer is seen elsewhere", len(l))
		}
		spoil(free, api.Span{From: 2, Count: 2})
		spoil(b, 0)
		if !slices.Equal(two, l) {
			t.Errorf("%d spans: the answer changes with the arguments", len(l))
		}
	}
}

func TestP13_8NothingIsKept(t *testing.T) {
	d := device(t, 24*512)
	l := spans(5, 3, 9, 15)
	saves(t, "P13.8", d, l, true, api.OK)
	spoil(l, api.Span{From: 1, Count: 1})
	restores(t, "P13.8", d.View(), small, spans(5, 3, 9, 15), api.OK)
}

// TestP13_8DevicesApart: what is done to one device isn't seen in another.
func TestP13_8DevicesApart(t *testing.T) {
	var devices []*pmem.Device
	for range 3 {
		devices = append(devices, device(t, 24*512))
	}
	for k := range 9 {
		d := devices[k%3]
		saves(t, "P13.8", d, spans(5, 1+k), true, api.OK)
		clean(t, "P13.8", d, codec.Seal(128, uint32(1+k/3)))
	}
	for k, d := range devices {
		restores(t, "P13.8", d.View(), small, spans(5, 7+k), api.OK)
	}
}

func TestP13_8NoPanic(t *testing.T) {
	r := chance()
	var list []api.Span
	for _, x := range append(wild, 4, 5, 6, 1023) {
		for _, y := range append(wild, 1, 2, 1019) {
			list = append(list, api.Span{From: x, Count: y})
		}
	}
	for range 2000 {
		var free []api.Span
		for range r.Intn(5) {
			free = append(free, list[r.Intn(len(list))])
		}
		size := 512 * (1 + r.Intn(30))
		asks(t, size, free)
		number := func() int { return append(wild, 24, 8, 1, 5)[r.Intn(len(wild)+4)] }
		st := api.State{Shape: api.Shape{Pages: number(), Inodes: number(), Cores: number(), Data: number()}, Free: free}
		b := make([]byte, r.Intn(size))
		r.Read(b)
		agrees(t, "P13.8", b, st)
	}
	restores(t, "P13.8", []byte{}, api.Shape{Pages: math.MinInt, Inodes: math.MinInt, Cores: math.MinInt, Data: math.MinInt}, nil, api.ErrShape)
}
