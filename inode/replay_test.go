package inode_test

import (
	"math"
	"math/rand"
	"slices"
	"testing"

	"furrow/api"
	"furrow/inode"
)

// TestP9_4Rest: Ino, Kind, Links, Head, Tail and Log are n's whatever they are; Entries is one more, as Go adds.
func TestP9_4Rest(t *testing.T) {
	for _, v := range append([]int{0, 1, 2, 4096}, wild...) {
		for i, n := range []api.Node{file(512, 0, 9, 1), dir(dent("a", 2))} {
			n.Ino, n.Links, n.Head, n.Tail, n.Entries = v, v+1, v+2, v+3, v
			for _, log := range [][]int{nil, {}, {v}, {v, 7, v, -1}, make([]int, 500)} {
				n.Log = log
				got, e := inode.Apply(n, []api.Entry{size(9), drop("a")}[i])
				if e != api.OK || got.Ino != v || got.Kind != 1+i || got.Links != v+1 || got.Head != v+2 || got.Tail != v+3 || got.Entries != v+1 || !slices.Equal(got.Log, log) {
					t.Fatalf("Apply(%+v) = %+v, %d", n, got, e)
				}
			}
		}
	}
	if n, _ := inode.Apply(api.Node{Kind: 1, Entries: math.MaxInt}, size(1)); n.Entries != math.MinInt {
		t.Errorf("Entries wraps to %d", n.Entries)
	}
}

// TestP9_5Kinds: of nothing, nothing but the kind; no other kind, with entries or without, good ones or not.
func TestP9_5Kinds(t *testing.T) {
	for _, kind := range append([]int{0, 1, 2, 3, 4, 5, 255, 256, 257, 258}, wild...) {
		for _, l := range [][]api.Entry{nil, {}, {size(1)}, {add("a", 2)}, {{}}, {size(-1)}} {
			n, e := replayed(t, "any kind", kind, l)
			if len(l) > 0 {
				continue
			}
			if kind == 1 || kind == 2 {
				if e != api.OK || !same(n, api.Node{Kind: kind}) {
					t.Errorf("Replay(%d, nothing) = %+v, %d", kind, n, e)
				}
			} else if e != api.ErrMeaning {
				t.Errorf("Replay(%d, nothing) = %d", kind, e)
			}
		}
	}
}

// TestP9_5First: the first that is refused tells the error, wherever it stands and whatever stands behind it.
func TestP9_5First(t *testing.T) {
	r := rand.New(rand.NewSource(95))
	for kind, log := range [][]api.Entry{1: someFile(r, 12), 2: someDir(r, 12)} {
		if kind == 0 {
			continue
		}
		worse := []api.Entry{{}, {Kind: 7}, size(-1), add("", 2), add("a", 1)}
		if kind == 1 {
			worse = append(worse, add("new", 2), drop("a"))
		} else {
			worse = append(worse, size(0), write(0, 1, 9, 9), drop("not there"))
		}
		for at := range len(log) + 1 {
			for _, a := range worse {
				for _, b := range worse {
					l := slices.Concat(log[:at], []api.Entry{a}, log[at:], []api.Entry{b})
					if _, e := replayed(t, "one that is refused", kind, l); e == api.OK {
						t.Fatalf("%+v was taken", l)
					}
				}
			}
		}
	}
}

// TestP9_5Seq: what Seq the entries have isn't looked at.
func TestP9_5Seq(t *testing.T) {
	r := rand.New(rand.NewSource(96))
	for range 50 {
		for i, l := range [][]api.Entry{someFile(r, 15), someDir(r, 15)} {
			want, _ := inode.Replay(1+i, l)
			for k := range l {
				l[k].Seq = anyOf(r, 0, 1, 1<<62+1, math.MaxUint64, r.Uint64())
			}
			if got, e := inode.Replay(1+i, l); e != api.OK || !same(got, want) {
				t.Fatalf("other Seqs: %+v, %d, want %+v", got, e, want)
			}
		}
	}
}

// TestP9_5Rest: all fields that a log doesn't say are zero, and Entries is the number of the entries.
func TestP9_5Rest(t *testing.T) {
	r := rand.New(rand.NewSource(97))
	for count := range 60 {
		for i, l := range [][]api.Entry{someFile(r, count), someDir(r, count)} {
			n, e := inode.Replay(1+i, l)
			if e != api.OK || n.Entries != count || n.Kind != 1+i || n.Ino != 0 || n.Links != 0 || n.Head != 0 || n.Tail != 0 || len(n.Log) != 0 {
				t.Fatalf("Replay of %d entries: %+v, %d", count, n, e)
			}
			if i == 0 && len(n.Names) != 0 || i == 1 && (n.Size != 0 || len(n.Map) != 0) {
				t.Fatalf("kind %d: %+v", 1+i, n)
			}
		}
	}
}
