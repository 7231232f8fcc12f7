package gc_test

import (
	"runtime"
	"slices"
	"strings"
	"sync"
	"testing"

	"furrow/api"
	"furrow/gc"
	"furrow/pmem"
)

// spoil changes all of a list and of its spare room.
func spoil[T any](list []T, v T) {
	list = list[:cap(list)]
	for i := range list {
		list[i] = v
	}
}

func spoilNode(n api.Node) {
	spoil(n.Map, api.Run{Off: -7, Page: -7, Count: -7})
	spoil(n.Names, api.Dent{Name: "spoilt", Ino: -7})
	spoil(n.Log, -7)
}

// roomy: the list with spare room behind it, and a look whether all of it is as it was.
func roomy[T comparable](list []T, more ...T) ([]T, func() bool) {
	whole := slices.Concat(list, more)
	was := slices.Clone(whole)
	return whole[:len(list)], func() bool { return slices.Equal(whole, was) }
}

// asks: nodes and pages that are collected, and such that aren't.
func asks(t *testing.T) []*ask {
	t.Helper()
	var list []*ask
	for _, n := range []api.Node{second(), file(0), file(700), file(262144, 0, 5, 16, 20, 5, 17), dir(0, 14), dir(7, 14), dir(15, 32)} {
		list = append(list, &ask{plain(t, small).View(), small, n, drawnPages(chance(), small, gc.Want(n), 5, 6)})
	}
	for _, f := range faults() {
		a := fair(t, small)
		f.do(a)
		list = append(list, a)
	}
	return list
}

// TestP10_8Arguments: what is handed in is as it was, its spare room too, also when the answer has been written over.
func TestP10_8Arguments(t *testing.T) {
	for _, a := range asks(t) {
		for _, steps := range []int{1 << 30, 0, 5, 30} {
			n := a.n
			var runsStill, namesStill, logStill, pagesStill func() bool
			n.Map, runsStill = roomy(n.Map, runs(1, 2, 3, 4, 5, 6)...)
			n.Names, namesStill = roomy(n.Names, api.Dent{Name: "x", Ino: 3}, api.Dent{Name: "y", Ino: 4})
			n.Log, logStill = roomy(n.Log, 11, 12, 13)
			pages, still := roomy(a.pages, 14, 15, 16)
			pagesStill = still
			d := load(t, a.b)
			d.Arm(steps)
			gc.Want(n)
			gc.Due(n)
			got, _ := gc.Collect(d, a.sh, n, pages)
			spoilNode(got)
			if !runsStill() || !namesStill() || !logStill() || !pagesStill() {
				t.Fatalf("Collect(%+v, %v) changed what it was given", a.n, a.pages)
			}
		}
	}
}

// TestP10_8Answers: an answer changes neither with what was handed in, nor with another answer; no two of its lists share memory; and the device keeps nothing of it.
func TestP10_8Answers(t *testing.T) {
	for _, a := range asks(t) {
		d := load(t, a.b)
		n, pages := copied(a.n), slices.Clone(a.pages)
		got, e := gc.Collect(d, a.sh, n, pages)
		if e != api.OK {
			continue
		}
		want := copied(got)
		other, _ := gc.Collect(load(t, a.b), a.sh, n, pages)
		view := d.View()
		spoilNode(n)
		spoil(pages, -7)
		spoilNode(other)
		if !same(got, want) {
			t.Fatalf("an answer has changed to %+v, was %+v", got, want)
		}
		spoil(got.Log, -7)
		if !slices.Equal(got.Map, want.Map) || !slices.Equal(got.Names, want.Names) {
			t.Fatalf("the lists of an answer share memory: %+v", got)
		}
		spoilNode(got)
		if !slices.Equal(d.View(), view) {
			t.Fatal("the device shares memory with an answer")
		}
	}
}

// TestP10_8LongTexts: names of answers are copies: they don't hold the long texts that they were cut from.
func TestP10_8LongTexts(t *testing.T) {
	var held []api.Node
	var ahead, behind runtime.MemStats
	runtime.GC()
	runtime.ReadMemStats(&ahead)
	for range 48 {
		long := strings.Repeat("long text ", 100000)
		n := dir(0, 14)
		n.Names = []api.Dent{{Name: long[3:13], Ino: 2}}
		held = append(held, collects(t, "long texts", plain(t, small), small, n, []int{7}))
	}
	runtime.GC()
	runtime.ReadMemStats(&behind)
	if grown := int(behind.HeapAlloc) - int(ahead.HeapAlloc); grown > 12_000_000 {
		t.Errorf("%d bytes more are held", grown)
	}
	for _, n := range held {
		if len(n.Names) != 1 || n.Names[0].Name != "g text lon" {
			t.Fatalf("an answer is %+v", n)
		}
	}
}

// TestP10_8Wild: any numbers and texts at all, in every field at once.
func TestP10_8Wild(t *testing.T) {
	r := chance()
	num := func() int {
		return []int{wild[r.Intn(len(wild))], r.Intn(4), r.Intn(30), r.Intn(600), 64 * r.Intn(300), int(r.Uint64())}[r.Intn(6)]
	}
	some := func(often ...int) int {
		if r.Intn(5) > 0 {
			return often[r.Intn(len(often))]
		}
		return num()
	}
	d := plain(t, small)
	for range 30000 {
		n := api.Node{Ino: some(1, 2, 8), Kind: some(1, 2), Links: some(1), Size: some(0, 512, 5000), Head: some(5, 6, 23), Tail: some(3584, 2688), Entries: num()}
		for range r.Intn(3) {
			n.Map = append(n.Map, api.Run{Off: some(0, 1, 2), Page: some(9, 20), Count: some(1, 2)})
		}
		for range r.Intn(3) {
			n.Names = append(n.Names, api.Dent{Name: []string{"a", "b", "", "a/b", "..", strings.Repeat("x", 29)}[r.Intn(6)], Ino: some(2, 8)})
		}
		for range r.Intn(3) {
			n.Log = append(n.Log, num())
		}
		var pages []int
		for range some(0, 1, 1, 2) % 5 {
			pages = append(pages, some(7, 8, 9))
		}
		sh := api.Shape{Pages: some(24), Inodes: some(8), Cores: some(1), Data: some(5)}
		if r.Intn(3) > 0 {
			sh = small
		}
		was := copied(n)
		if w := gc.Want(n); w < 0 || w > 1 || gc.Due(n) && n.Entries < 14 { // nowhere more than three runs or names
			t.Fatalf("Want(%+v) = %d, Due %v", n, w, gc.Due(n))
		}
		if got, e := gc.Collect(d, sh, n, pages); e == api.OK && !slices.Equal(got.Log, pages) || e != api.OK && !none(got) {
			t.Fatalf("Collect(%v, %+v, %v) = %+v, %v", sh, n, pages, got, e)
		}
		if !same(n, was) {
			t.Fatalf("Collect changed %+v to %+v", was, n)
		}
	}
}

// TestP10_8Same: the same answer and the same bytes each time, also from several goroutines at once over the same lists.
func TestP10_8Same(t *testing.T) {
	n, pages := dir(15, 32), []int{9, 7, 8}
	first := plain(t, small)
	want := collects(t, "first", first, small, n, pages)
	b := plain(t, small).View()
	var all sync.WaitGroup
	for range 8 {
		all.Go(func() {
			for range 30 {
				d, _ := pmem.Load(b)
				got, e := gc.Collect(d, small, n, pages)
				if e != api.OK || !same(got, want) || !gc.Due(n) || gc.Want(n) != 3 {
					t.Errorf("at the same time: %+v, %v", got, e)
				}
				alike(t, "at the same time", d, first)
			}
		})
	}
	all.Wait()
}
