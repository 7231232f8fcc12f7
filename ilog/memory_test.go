package ilog_test

import (
	"bytes"
	"runtime"
	"slices"
	"sync"
	"testing"
	"time"

	"furrow/api"
	"furrow/ilog"
	"furrow/pmem"
)

// spoil changes all of a list and of its spare room.
func spoil[T any](list []T, v T) {
	list = list[:cap(list)]
	for i := range list {
		list[i] = v
	}
}

func TestP6_ArgumentsAreLeftAlone(t *testing.T) {
	r := chance()
	entries, pages := drawn(r, small, 30), drawnPages(r, small, 12, 5)
	entries0, pages0 := slices.Clone(entries), slices.Clone(pages)
	d := blank(t, small)
	for n := range entries {
		for p := range pages {
			ilog.Append(d, small, 2, file(0, 0), 0, entries[:n], pages[:p])
			ilog.Append(d, small, 2, file(5, 2688), 1, entries[:n], pages[:p])
			ilog.Append(d, middling, 2, file(0, 0), 0, entries[:n], pages[:p])
		}
	}
	d.Arm(20)
	ilog.Append(d, small, 2, file(0, 0), 0, entries[:5], pages[:1])
	if !slices.Equal(entries, entries0) || !slices.Equal(pages, pages0) {
		t.Error("entries or pages were changed, or their spare room")
	}
	b, l := threePages(t, r)
	b = append(b, bytes.Repeat([]byte{0x5A}, 700)...)
	b0 := bytes.Clone(b)
	ilog.Walk(b[:24*512], small, 2, l.slot)
	ilog.Walk(b[:24*512+512], small, 2, l.slot)
	for _, bend := range inOrder {
		c := bytes.Clone(b)
		bend.bend(c, l)
		c0 := bytes.Clone(c)
		ilog.Walk(c[:24*512], small, 2, l.slot)
		if !bytes.Equal(c, c0) {
			t.Errorf("%s: an image was changed, or its spare room", bend.name)
		}
	}
	if !bytes.Equal(b, b0) {
		t.Error("an image was changed, or its spare room")
	}
}

func TestP6_AnswersAreNewMemory(t *testing.T) {
	b, l := threePages(t, chance())
	one, p1, _ := ilog.Walk(b, small, 2, l.slot)
	two, p2, _ := ilog.Walk(b, small, 2, l.slot)
	spoil(one, api.Entry{Kind: 7, Name: "spoilt"})
	if !slices.Equal(p1, l.pages) {
		t.Error("an answer's two lists share memory")
	}
	spoil(p1, 999)
	spoil(b, 0x77)
	if !slices.Equal(two, l.entries) || !slices.Equal(p2, l.pages) {
		t.Error("an answer shares memory with another, or with the image")
	}
	c1, _ := ilog.Changes(2, api.Slot{}, file(5, 2688))
	c2, _ := ilog.Changes(2, api.Slot{}, file(5, 2688))
	spoil(c1, api.Change{At: 1, New: 1})
	c3, _ := ilog.Changes(2, api.Slot{}, file(5, 2688))
	if want := differing(2, api.Slot{}, file(5, 2688)); !slices.Equal(c2, want) || !slices.Equal(c3, want) {
		t.Error("two lists of changes share memory")
	}
}

// TestP6_NothingIsKept: lists that are changed behind an Append, and other devices, are of no matter.
func TestP6_NothingIsKept(t *testing.T) {
	d, other := blank(t, small), blank(t, small)
	entries, pages := sizes(9), []int{7, 9}
	s := appends(t, d, small, 2, file(0, 0), 0, entries, pages)
	spoil(entries, bad)
	spoil(pages, 0)
	walks(t, "behind a change of the lists", d.View(), small, 2, s, numbered(0, sizes(9)), []int{7, 9})
	if other.Steps() != 0 || !bytes.Equal(other.View(), make([]byte, 24*512)) {
		t.Error("another device was changed")
	}
}

// TestP6_WildNumbers: every call answers, whatever numbers it is given.
func TestP6_WildNumbers(t *testing.T) {
	d := blank(t, small)
	b := d.View()
	for _, n := range append(wild, 0, 1, 5, 2688) {
		for _, m := range append(wild, 0, 1, 5, 2688) {
			for _, sh := range []api.Shape{small, {Pages: n, Inodes: m, Cores: n, Data: m}, {Pages: 24, Inodes: n, Cores: m, Data: n}} {
				slot := api.Slot{Kind: 1, Links: 1, Head: n, Tail: m}
				ilog.Append(d, sh, n, slot, m, sizes(1), []int{n})
				ilog.Append(d, sh, 2, file(5, 2688), 1, []api.Entry{{Kind: api.EntWrite, Off: n, Count: m, Page: n, Size: m}}, nil)
				ilog.Append(d, sh, 2, file(5, 2688), 1, []api.Entry{{Kind: n, Ino: m, Name: "a"}}, nil)
				ilog.Walk(b, sh, n, slot)
				ilog.Walk(b, sh, 2, slot)
				ilog.Changes(n, slot, file(5, 2688))
				ilog.Commit(d, n, slot, api.Slot{Kind: m, Links: n, Head: m, Tail: n})
			}
		}
	}
}

// TestP6_NothingRunsOn: a walk's goroutine has ended when it answers, behind a breach too.
func TestP6_NothingRunsOn(t *testing.T) {
	b, l := threePages(t, chance())
	before := runtime.NumGoroutine()
	for range 50 {
		ilog.Walk(b, small, 2, l.slot)
		for _, bend := range inOrder {
			c := bytes.Clone(b)
			bend.bend(c, l)
			ilog.Walk(c, small, 2, l.slot)
		}
	}
	for range 100 { // the last one may be on its way out
		if runtime.NumGoroutine() <= before {
			return
		}
		time.Sleep(time.Millisecond)
	}
	t.Errorf("%d goroutines, %d ahead of the walks", runtime.NumGoroutine(), before)
}

// TestP6_ManyAtOnce: walks of one image at the same time, and Appends on devices of their own.
func TestP6_ManyAtOnce(t *testing.T) {
	b, l := threePages(t, chance())
	var all sync.WaitGroup
	for range 8 {
		all.Go(func() {
			for range 30 {
				walks(t, "at the same time", b, small, 2, l.slot, l.entries, l.pages)
				d, _ := pmem.Load(b)
				s, e := ilog.Append(d, small, 2, l.slot, 17, sizes(9), []int{7})
				if e != api.OK || ilog.Commit(d, 2, l.slot, s) != api.OK || d.Steps() != 2+1+72+2+9+1+3 {
					t.Errorf("Append = %v, %v, %d steps", s, e, d.Steps())
				}
			}
		})
	}
	all.Wait()
}
