package inode_test

import (
	"math/rand"
	"runtime"
	"slices"
	"strings"
	"testing"

	"furrow/api"
	"furrow/inode"
)

// spoil: writes into a list and its spare room.
func spoil[T any](l []T, v T) {
	l = l[:cap(l)]
	for i := range l {
		l[i] = v
	}
}

func spoilNode(n api.Node) {
	spoil(n.Map, api.Run{Off: -7, Page: -7, Count: -7})
	spoil(n.Names, dent("spoilt", -7))
	spoil(n.Log, -7)
}

// roomy: the node with lists that have spare room, and a look whether all of it is as it was.
func roomy(n api.Node) (api.Node, func() bool) {
	m := append(slices.Clone(n.Map), runs(1, 2, 3, 4, 5, 6, 7, 8, 9)...)
	d := append(slices.Clone(n.Names), dent("x", 1), dent("y", 2), dent("z", 3))
	l := append(slices.Clone(n.Log), 1, 2, 3)
	wasM, wasD, wasL := slices.Clone(m), slices.Clone(d), slices.Clone(l)
	n.Map, n.Names, n.Log = m[:len(n.Map)], d[:len(n.Names)], l[:len(n.Log)]
	return n, func() bool { return slices.Equal(m, wasM) && slices.Equal(d, wasD) && slices.Equal(l, wasL) }
}

// TestR3Arguments: what is handed in is as it was, its spare room too, also when the answers have been written over.
func TestR3Arguments(t *testing.T) {
	for _, n := range append(nodes(), badNodes()...) {
		n.Log = []int{4, 5}
		n, still := roomy(n)
		for _, e := range one {
			got, _ := inode.Apply(n, e)
			spoilNode(got)
		}
		l, _ := inode.Canon(n)
		spoil(l, api.Entry{Kind: -7})
		spoil(inode.Pages(n), -7)
		if !still() {
			t.Fatalf("%+v has changed", n)
		}
	}
	r := rand.New(rand.NewSource(3))
	for i, l := range [][]api.Entry{someFile(r, 30), someDir(r, 30)} {
		whole := append(slices.Clone(l), one...)
		was := slices.Clone(whole)
		n, _ := inode.Replay(1+i, whole[:len(l)])
		spoilNode(n)
		if !slices.Equal(whole, was) {
			t.Fatalf("the entries have changed: %+v", whole)
		}
	}
}

// TestR3Answers: no answer changes with what was handed in, nor with another answer.
func TestR3Answers(t *testing.T) {
	for _, n := range nodes() {
		n.Log = []int{4, 5}
		for _, e := range one {
			a, err := inode.Apply(n, e)
			if err != api.OK {
				continue
			}
			want := copied(a)
			arg := copied(n)
			b, _ := inode.Apply(arg, e)
			spoilNode(arg)
			spoilNode(a)
			if !same(b, want) {
				t.Fatalf("an answer has changed to %+v, was %+v", b, want)
			}
			c, _ := inode.Canon(b)
			p := inode.Pages(b)
			wasC, wasP := slices.Clone(c), slices.Clone(p)
			d, _ := inode.Canon(b)
			spoil(d, api.Entry{})
			spoil(inode.Pages(b), -7)
			spoilNode(b)
			if !slices.Equal(c, wasC) || !slices.Equal(p, wasP) {
				t.Fatalf("Canon or Pages of %+v have changed", want)
			}
		}
	}
	r := rand.New(rand.NewSource(4))
	for i, l := range [][]api.Entry{someFile(r, 30), someDir(r, 30)} {
		a, _ := inode.Replay(1+i, l)
		b, _ := inode.Replay(1+i, l)
		want := copied(a)
		spoilNode(b)
		spoil(l, api.Entry{})
		if !same(a, want) {
			t.Fatalf("an answer of Replay has changed to %+v", a)
		}
	}
}

// TestR3LongTexts: names of answers are copies: they don't hold the long texts that they were cut from.
func TestR3LongTexts(t *testing.T) {
	var held []api.Node
	var lists [][]api.Entry
	var ahead, behind runtime.MemStats
	runtime.GC()
	runtime.ReadMemStats(&ahead)
	for i := range 48 {
		long := strings.Repeat("long text ", 100000)
		name := long[i%10 : 10+i%10]
		a, _ := inode.Apply(dir(), add(name, 2))
		b, _ := inode.Replay(api.KindDir, []api.Entry{add(name, 2)})
		c, _ := inode.Canon(dir(dent(name, 2)))
		held, lists = append(held, a, b), append(lists, c)
	}
	runtime.GC()
	runtime.ReadMemStats(&behind)
	if grown := int(behind.HeapAlloc) - int(ahead.HeapAlloc); grown > 12_000_000 {
		t.Errorf("%d bytes more are held", grown)
	}
	for i := range lists {
		if len(held[2*i].Names) != 1 || len(held[2*i+1].Names) != 1 || len(lists[i]) != 1 || len(lists[i][0].Name) != 10 {
			t.Fatalf("answer %d: %+v, %+v, %+v", i, held[2*i], held[2*i+1], lists[i])
		}
	}
}

// TestR1Wild: any numbers and texts at all, in every field at once.
func TestR1Wild(t *testing.T) {
	r := rand.New(rand.NewSource(5))
	num := func() int { return anyOf(r, anyOf(r, wild...), r.Intn(4), r.Intn(600), int(r.Uint64())) }
	text := func() string { return anyOf(r, anyOf(r, bad...), anyOf(r, good...)) }
	for range 20000 {
		n := api.Node{Ino: num(), Kind: anyOf(r, 1, 2, num()), Links: num(), Size: anyOf(r, 0, num()), Head: num(), Tail: num(), Entries: num()}
		for range r.Intn(4) {
			n.Map = append(n.Map, api.Run{Off: num(), Page: num(), Count: num()})
		}
		for range r.Intn(3) {
			n.Names = append(n.Names, dent(text(), num()))
		}
		for range r.Intn(3) {
			n.Log = append(n.Log, num())
		}
		e := api.Entry{Kind: anyOf(r, 1, 2, 3, 4, num()), Seq: r.Uint64(), Off: num(), Count: num(), Page: num(), Size: num(), Ino: num(), Name: text()}
		applied(t, "wild", n, e)
		applied(t, "wild", n, anyOf(r, one...))
		told(t, "wild", n)
		replayed(t, "wild", anyOf(r, 1, 2, num()), []api.Entry{anyOf(r, one...), e})
	}
}

// TestR1LongLists: very long lists that aren't good, or say the same again and again, end soon.
func TestR1LongLists(t *testing.T) {
	n := api.Node{Kind: 1, Size: 262144, Map: slices.Repeat(runs(0, 5, 512), 200000)}
	if l, e := inode.Canon(n); e != api.ErrMeaning || len(l) != 0 || len(inode.Pages(n)) != 0 {
		t.Errorf("Canon: %d", e)
	}
	refused(t, n, size(1), api.ErrMeaning)
	got, e := inode.Replay(1, slices.Repeat([]api.Entry{write(0, 16, 5, 262144), size(1)}, 20000))
	if e != api.OK || got.Entries != 40000 || !slices.Equal(got.Map, runs(0, 5, 1)) {
		t.Errorf("Replay: %+v, %d", got, e)
	}
}

// TestR4Same: the same answer each time, also from several goroutines at once over the same lists.
func TestR4Same(t *testing.T) {
	r := rand.New(rand.NewSource(6))
	logs := [][]api.Entry{someFile(r, 40), someDir(r, 40)}
	done := make(chan string)
	for range 4 {
		go func() {
			for range 20 {
				for i, l := range logs {
					m := &model{kind: 1 + i}
					for _, e := range l {
						m.apply(e)
					}
					n, e := inode.Replay(1+i, l)
					c, f := inode.Canon(n)
					if e != api.OK || f != api.OK || !same(n, m.node()) || !slices.Equal(c, m.canon()) {
						done <- "another answer"
						return
					}
				}
			}
			done <- ""
		}()
	}
	for range 4 {
		if s := <-done; s != "" {
			t.Error(s)
		}
	}
}
