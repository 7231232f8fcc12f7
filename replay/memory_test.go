package replay_test

import (
	"bytes"
	"math/rand"
	"reflect"
	"slices"
	"testing"

	"furrow/api"
	"furrow/replay"
)

// roomy: a list with room behind it, and a look at whether the whole is as it was.
func roomy[T any](list []T, behind ...T) ([]T, func() bool) {
	whole := append(slices.Clone(list), behind...)
	was := slices.Clone(whole)
	return whole[:len(list)], func() bool { return reflect.DeepEqual(whole, was) }
}

// TestR3Images: an image that is handed in isn't changed, its spare room included.
func TestR3Images(t *testing.T) {
	r := chance()
	for range 30 {
		d, _ := drawn(t, r, small, 8)
		d.pending(r, 2048, 2112)
		b, untouched := roomy(d.b, bytes.Repeat([]byte{1}, 600)...)
		replay.Replay(b)
		if replay.Scan(b, small, 1); !untouched() {
			t.Fatal("the image was changed")
		}
		s := spoilt(r, d)
		b, untouched = roomy(s.b, 1, 2, 3)
		replay.Replay(b)
		if replay.Scan(b, small, 2); !untouched() {
			t.Fatal("the broken image was changed")
		}
	}
}

// kept: nodes whose lists have room behind them, and a look at whether all of them are as they were.
func kept(nodes []api.Node) ([]api.Node, func() bool) {
	var looks []func() bool
	own := slices.Clone(nodes)
	for i := range own {
		var log, runs, names func() bool
		own[i].Log, log = roomy(own[i].Log, 5, 5)
		own[i].Map, runs = roomy(own[i].Map, run(0, 5, 19))
		own[i].Names, names = roomy(own[i].Names, to(9, 1)...)
		looks = append(looks, log, runs, names)
	}
	own, whole := roomy(own, dir(1), file(9, 9))
	return own, func() bool {
		return whole() && !slices.ContainsFunc(looks, func(f func() bool) bool { return !f() })
	}
}

// TestR3Nodes: nodes that are handed in aren't changed, whatever is answered.
func TestR3Nodes(t *testing.T) {
	r := chance()
	for range 40 {
		_, st := drawn(t, r, middling, 12)
		nodes, untouched := kept(st.Nodes)
		owners(t, "nodes", middling, nodes, owned(t, nodes), api.OK)
		judges(t, "nodes", middling, nodes, api.OK, 0)
		more := append(slices.Clone(nodes), api.Node{Ino: 24, Kind: api.KindFile, Links: 1, Log: []int{7, 59, 7}})
		replay.Owners(middling, more)
		replay.Judge(middling, more)
		if !untouched() {
			t.Fatal("the nodes were changed")
		}
	}
}

func owned(t *testing.T, nodes []api.Node) []int {
	t.Helper()
	l, e := modelOwners(middling, nodes)
	if e != api.OK {
		t.Fatal(e)
	}
	return l
}

// spoil writes over all that a state has, its spare room too.
func spoil(st api.State) {
	nodes := st.Nodes[:cap(st.Nodes)]
	for _, n := range st.Nodes {
		fill(n.Map[:cap(n.Map)], run(-1, -1, -1))
		fill(n.Names[:cap(n.Names)], api.Dent{Name: "no", Ino: -1})
		fill(n.Log[:cap(n.Log)], -1)
	}
	fill(nodes, api.Node{Ino: -1})
	fill(st.Free[:cap(st.Free)], api.Span{From: -1})
}

func fill[T any](list []T, v T) {
	for i := range list {
		list[i] = v
	}
}

// TestR3Answers: what is answered is new memory, and no two lists of it share any.
func TestR3Answers(t *testing.T) {
	r := chance()
	for range 30 {
		d, want := drawn(t, r, middling, 16)
		first, _ := replay.Replay(d.b)
		second, _ := replay.Replay(d.b)
		n, _ := replay.Scan(d.b, middling, 1)
		spoil(first)
		spoil(api.State{Nodes: []api.Node{n}})
		if !sameState(second, want) {
			t.Fatal("two answers share memory")
		}
		r.Read(d.b)
		if !sameState(second, want) {
			t.Fatal("the answer shares memory with the image")
		}
		for i := range second.Nodes {
			a := &second.Nodes[i]
			fill(a.Map[len(a.Map):cap(a.Map)], run(-1, -1, -1))
			fill(a.Names[len(a.Names):cap(a.Names)], api.Dent{Name: "no"})
			fill(a.Log[len(a.Log):cap(a.Log)], -1)
		}
		if !sameState(second, want) {
			t.Fatal("two lists of an answer share memory")
		}
	}
}

// TestR3Owners: the list of owned pages shares no memory with the nodes; a page that is told is a list of its own.
func TestR3Owners(t *testing.T) {
	nodes := []api.Node{{Log: []int{5, 6, 7}}}
	l, _ := replay.Owners(small, nodes)
	again, _ := replay.Owners(small, nodes)
	fill(l[:cap(l)], -1)
	if !slices.Equal(nodes[0].Log, []int{5, 6, 7}) || !slices.Equal(again, []int{5, 6, 7}) {
		t.Errorf("%v, %v", nodes, again)
	}
	twice := []api.Node{{Log: []int{5, 5, 6}}}
	l, _ = replay.Owners(small, twice)
	fill(l[:cap(l)], -1)
	owners(t, "twice", small, twice, []int{5}, api.ErrTwice)
}

// TestR4Again: the same answers, again and again, and whatever was asked in between.
func TestR4Again(t *testing.T) {
	r := chance()
	for range 20 {
		d, want := drawn(t, r, middling, 16)
		s := spoilt(r, d)
		_, first := replay.Replay(s.b)
		for range 5 {
			means(t, "again", d.b, want)
			if _, err := replay.Replay(s.b); !reflect.DeepEqual(err, first) {
				t.Errorf("%v, then %v", first, err)
			}
		}
	}
}

// TestR4Errors: an error that was answered is its caller's own.
func TestR4Errors(t *testing.T) {
	_, err := replay.Replay(nil)
	err.(*api.CorruptError).Place = rand.Int()
	corrupt(t, "again", nil, api.ErrSuper, 0)
}
