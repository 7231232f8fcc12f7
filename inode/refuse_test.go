package inode_test

import (
	"math"
	"math/rand"
	"slices"
	"testing"

	"furrow/api"
	"furrow/inode"
)

// refused: Apply's answer is this error and nothing else.
func refused(t *testing.T, n api.Node, e api.Entry, want api.Errno) {
	t.Helper()
	if got, err := inode.Apply(n, e); err != want || !same(got, api.Node{}) {
		t.Fatalf("Apply(%+v, %+v) = %+v, %d, want nothing and %d", n, e, got, err, want)
	}
}

// one: an entry of each kind that a log may have.
var one = []api.Entry{write(0, 1, 9, 512), size(700), add("new", 9), drop("a")}

// wrong: entries that aren't good, each for one reason.
func wrong() []api.Entry {
	l := []api.Entry{
		{}, {Kind: 5}, {Kind: 7}, {Kind: 257}, {Kind: 1<<32 + 2},
		write(0, 0, 9, 512), write(0, 17, 9, 512), write(497, 16, 9, 512), write(512, 1, 9, 512), write(0, 1, 4, 512), write(0, 1, 1024, 512), write(0, 16, 1009, 512), write(0, 1, 9, -1), write(0, 1, 9, 262145), write(-1, 2, 9, 512),
		size(-1), size(262145), add("a", 1), add("a", 0), add("a", 257), add("a", -2),
	}
	for _, s := range bad {
		l = append(l, add(s, 2), drop(s))
	}
	for _, n := range wild {
		l = append(l, api.Entry{Kind: n}, write(n, 1, 9, 512), write(0, n, 9, 512), write(0, 1, n, 512), write(0, 1, 9, n), write(n, n, 9, 512), write(0, n, n, 512), size(n), add("a", n))
	}
	for _, e := range one {
		for _, set := range []func(*api.Entry){
			func(e *api.Entry) { e.Off++ }, func(e *api.Entry) { e.Count++ }, func(e *api.Entry) { e.Page++ }, func(e *api.Entry) { e.Size++ },
			func(e *api.Entry) { e.Ino++ }, func(e *api.Entry) { e.Name += "b" },
		} {
			x := e
			if set(&x); !isEntry(x) {
				l = append(l, x)
			}
		}
	}
	return l
}

// TestP9_1Entry: what is no good entry is ErrEntry, ahead of all that is wrong with the node.
func TestP9_1Entry(t *testing.T) {
	few := append([]api.Node{file(0), file(1024, 0, 9, 2), dir(), dir(dent("a", 2))}, badNodes()[:60]...)
	for _, e := range wrong() {
		if isEntry(e) {
			t.Fatalf("%+v is a good entry", e)
		}
		for _, n := range few {
			refused(t, n, e, api.ErrEntry)
		}
	}
}

// TestP9_1Seq: whatever Seq an entry has, it is taken, or refused for what else is wrong.
func TestP9_1Seq(t *testing.T) {
	for _, seq := range []uint64{0, 1, 2, 1 << 62, 1<<62 + 1, 1 << 63, math.MaxUint64} {
		for _, n := range []api.Node{file(1024, 0, 9, 2), dir(dent("a", 2))} {
			for _, e := range one {
				e.Seq = seq
				applied(t, "any Seq", n, e)
			}
			for _, e := range wrong() {
				e.Seq = seq
				refused(t, n, e, api.ErrEntry)
			}
		}
	}
}

// TestP9_1Edges: every number of an entry from below its least to above its most.
func TestP9_1Edges(t *testing.T) {
	f, d := file(262144, 0, 100, 512), dir(dent("a", 2))
	edge := []int{-1, 0, 1, 2, 3, 4, 5, 6, 15, 16, 17, 255, 256, 257, 495, 496, 497, 511, 512, 513, 1007, 1008, 1009, 1022, 1023, 1024, 262143, 262144, 262145}
	for _, n := range edge {
		for _, count := range []int{1, 2, 15, 16} {
			for _, e := range []api.Entry{write(n, count, 20, 262144), write(512-count, count, n, 262144), write(0, count, 20, n), write(1, n, 1024-count, 4096)} {
				applied(t, "a Write at the edges", f, e)
			}
		}
		applied(t, "a Size at the edges", f, size(n))
		applied(t, "an Add at the edges", d, add("n", n))
		applied(t, "an entry of any kind", f, api.Entry{Kind: n})
	}
	for b := range 256 {
		for _, s := range []string{string([]byte{byte(b)}), "a" + string([]byte{byte(b)}), "." + string([]byte{byte(b)}), string([]byte{byte(b)}) + "."} {
			applied(t, "a name of any byte", d, add(s, 7))
			applied(t, "a name of any byte", d, drop(s))
			applied(t, "a name of any byte in the node", dir(dent(s, 2)), add("new", 7))
		}
	}
	for n := range 40 {
		applied(t, "a name of any length", d, add(string(slices.Repeat([]byte("y"), n)), 7))
	}
}

// TestP9_1Node: a node that isn't good has no entry behind it, no canonical entries and no pages.
func TestP9_1Node(t *testing.T) {
	for i, n := range badNodes() {
		if _, ok := isGood(n); ok {
			t.Fatalf("bad node %d, %+v, is good", i, n)
		}
		for _, e := range one {
			refused(t, n, e, api.ErrMeaning)
		}
		told(t, "a node that isn't good", n)
	}
}

// TestP9_1Good: every good node has some entry behind it, whatever Ino, Links, Head, Tail, Log and Entries are.
func TestP9_1Good(t *testing.T) {
	for i, n := range nodes() {
		if _, ok := isGood(n); !ok {
			t.Fatalf("node %d, %+v, isn't good", i, n)
		}
		for _, v := range append([]int{0, 1, 2, 7}, wild...) {
			x := n
			x.Ino, x.Links, x.Head, x.Tail, x.Entries, x.Log = v, v, v, v, v, []int{v, v}
			for _, e := range one {
				applied(t, "a good node", x, e)
			}
			told(t, "a good node", x)
		}
	}
}

// TestP9_1Kinds: a file has no Add and no Drop, a directory no Write and no Size, not even one that would change nothing.
func TestP9_1Kinds(t *testing.T) {
	for _, n := range nodes() {
		if n.Kind == api.KindFile {
			refused(t, n, add("a", 2), api.ErrMeaning)
			refused(t, n, drop("a"), api.ErrMeaning)
			continue
		}
		refused(t, n, write(0, 1, 9, 0), api.ErrMeaning)
		refused(t, n, size(0), api.ErrMeaning)
	}
}

// TestP9_1Names: no Add of a name that is there, for its own inode or another; no Drop of one that isn't, however near it is.
func TestP9_1Names(t *testing.T) {
	m := &model{kind: 2}
	for i, name := range good {
		m.apply(add(name, 2+i))
	}
	n := m.node()
	for i, name := range good {
		refused(t, n, add(name, 2+i), api.ErrMeaning)
		refused(t, n, add(name, 200), api.ErrMeaning)
		refused(t, dir(), drop(name), api.ErrMeaning)
		less, e := inode.Apply(n, drop(name))
		if e != api.OK {
			t.Fatalf("Drop of %q: %d", name, e)
		}
		refused(t, less, drop(name), api.ErrMeaning)
	}
	for _, name := range []string{"aaaa", "a\x02", "x", "c", "C", "\xff\xff", ".b", "...."} {
		refused(t, n, drop(name), api.ErrMeaning)
	}
}

// TestP9_1Any: nodes and entries of few numbers in no order: what is refused, and for what, is what the chapter says.
func TestP9_1Any(t *testing.T) {
	r := rand.New(rand.NewSource(91))
	oks := 0
	for range 60000 {
		n := api.Node{Kind: anyOf(r, 1, 1, 1, 1, 2, 2, 2, 0, 3), Entries: r.Intn(3)}
		if n.Kind == 1 || r.Intn(9) == 0 {
			n.Size = anyOf(r, 0, 1, 512, 513, 1024, 1536, 262144, 262144, 262144, 262145, -1)
			for at := range r.Intn(4) {
				n.Map = append(n.Map, api.Run{Off: anyOf(r, at, at, 2*at, 2*at, 509, 511, -1), Page: anyOf(r, 9+at, 9+at, 9, 30, 5, 1023, 4), Count: anyOf(r, 1, 1, 1, 2, 3, 0)})
			}
		}
		if n.Kind == 2 || r.Intn(9) == 0 {
			for range r.Intn(4) {
				n.Names = append(n.Names, dent(anyOf(r, "a", "b", "c", "ab", "\xff", ""), anyOf(r, 2, 2, 3, 256, 1)))
			}
		}
		e := anyOf(r, someWrite(r), size(someSize(r, 1)), add(anyOf(r, "a", "b", "z"), 5), drop(anyOf(r, "a", "b", "z")), add("", 3), size(-1))
		if _, err := applied(t, "any node", n, e); err == api.OK {
			oks++
		}
		told(t, "any node", n)
	}
	if oks < 2000 {
		t.Errorf("only %d of these were taken", oks)
	}
}
