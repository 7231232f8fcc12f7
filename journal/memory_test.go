package journal_test

import (
	"bytes"
	"math"
	"slices"
	"testing"

	"furrow/api"
	"furrow/journal"
)

// spoil changes all of a list and of its spare room.
func spoil[T any](list []T, v T) {
	list = list[:cap(list)]
	for i := range list {
		list[i] = v
	}
}

func TestP4_8ArgumentsAreLeftAlone(t *testing.T) {
	r := chance()
	list := drawn(r, middling, image(middling), 8)
	list = append(list, changes(2048, 5)...)
	list0 := slices.Clone(list)
	d := load(t, filled(r, middling))
	for n := range list {
		journal.Commit(d, middling, list[:n])
		journal.Commit(d, small, list[:n])
	}
	d.Arm(7)
	journal.Commit(d, middling, list[:3])
	if !slices.Equal(list, list0) {
		t.Error("a list of changes was changed, or its spare room")
	}
	for _, j := range journals {
		b := append(filled(r, small), bytes.Repeat([]byte{0x5A}, 700)...)
		copy(b[512:], j.page)
		b0 := bytes.Clone(b)
		for _, n := range []int{24 * 512, 24*512 + 512, 600, 0} {
			journal.Pending(b[:n])
			journal.Overlay(b[:n])
		}
		if !bytes.Equal(b, b0) {
			t.Errorf("%s: an image was changed, or its spare room", j.name)
		}
	}
}

func TestP4_8AnswersAreNewMemory(t *testing.T) {
	list := undos(2048, 2512, 2120)
	for _, b := range [][]byte{journaled(image(small), list...), image(small)} {
		b = slices.Grow(b, 600)
		b0 := bytes.Clone(b)
		want, _ := journal.Pending(b)
		wide, _ := journal.Overlay(b)
		want, wide = slices.Clone(want), bytes.Clone(wide)
		one, _ := journal.Pending(b)
		two, _ := journal.Pending(b)
		over, _ := journal.Overlay(b)
		again, _ := journal.Overlay(b)
		spoil(one, api.Undo{At: 1, Old: 1})
		spoil(over, 0xEE)
		if !slices.Equal(two, want) || !bytes.Equal(again, wide) {
			t.Error("two answers share memory")
		}
		if !bytes.Equal(b, b0) {
			t.Error("an answer shares memory with the image")
		}
		spoil(b, 0x77)
		if !slices.Equal(two, want) || !bytes.Equal(again, wide) {
			t.Error("an answer shares memory with the image")
		}
	}
}

// TestP4_8NothingIsKept: a list that is changed behind a Commit, or a device that another one was like, are of no matter.
func TestP4_8NothingIsKept(t *testing.T) {
	d, other := load(t, image(small)), load(t, image(small))
	list := changes(2048, 2120)
	commits(t, d, small, list)
	spoil(list, api.Change{At: 2056, New: 9})
	v := d.View()
	if word(v, 2048) == 9 || word(v, 2056) != 0 || word(v, 2120) == 0 {
		t.Error("the list was kept")
	}
	if !bytes.Equal(other.View(), image(small)) || other.Steps() != 0 {
		t.Error("another device was changed")
	}
}

func TestP4_8WildNumbers(t *testing.T) {
	d := load(t, image(small))
	for _, n := range append(wild, 0, 1, 2048) {
		for _, m := range append(wild, 0, 1, 2048) {
			refuses(t, d, api.Shape{Pages: n, Inodes: m, Cores: n, Data: m}, changes(2048), api.ErrShape)
			refuses(t, d, api.Shape{Pages: 24, Inodes: n, Cores: 1, Data: m}, changes(2048), api.ErrShape)
			if n != 2048 {
				refuses(t, d, small, []api.Change{{At: n, New: math.MaxUint64}, {At: m}}, api.ErrJournal)
			}
		}
	}
}

func TestP4_8AnyBytes(t *testing.T) {
	r := chance()
	for range 2000 {
		b := filled(r, small)
		if r.Intn(2) == 0 {
			r.Read(b[512:520])
		} else {
			list := undos(tableWords(small)[:8]...)[:1+r.Intn(8)]
			b = journaled(b, list...)
			b[512+r.Intn(200)] = byte(r.Int())
		}
		l, e := journal.Pending(b)
		o, f := journal.Overlay(b)
		d := load(t, b)
		n, g := journal.Recover(d)
		if e != f || e != g || n != len(l) || e == api.OK && len(o) != len(b) || e != api.OK && (o != nil || d.Steps() != 0) {
			t.Fatalf("Pending %v, %v; Overlay %v; Recover %d, %v", l, e, f, n, g)
		}
		if len(l) == 0 && d.Steps() != 0 {
			t.Fatal("Recover did steps without records")
		}
	}
}
