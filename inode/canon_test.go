package inode_test

import (
	"math/rand"
	"slices"
	"testing"

	"furrow/api"
	"furrow/inode"
	"furrow/layout"
)

// TestP9_6Pieces: a run of every length is cut into Writes of 16 pages and what is left, from its beginning on, wherever it begins.
func TestP9_6Pieces(t *testing.T) {
	for count := 1; count <= 512; count++ {
		for _, off := range []int{0, 1, 15, 512 - count} {
			if off+count > 512 {
				continue
			}
			n := file(262000, off, 6, count)
			l, e := inode.Canon(n)
			if e != api.OK || len(l) != (count+15)/16 {
				t.Fatalf("a run of %d: %v, %d", count, l, e)
			}
			for i, x := range l {
				want := write(off+16*i, min(16, count-16*i), 6+16*i, 262000)
				want.Seq = uint64(i + 1)
				if x != want {
					t.Fatalf("a run of %d, entry %d: %+v, want %+v", count, i, x, want)
				}
			}
		}
	}
}

// TestP9_6Hand: lists worked by hand.
func TestP9_6Hand(t *testing.T) {
	for _, c := range []struct {
		n    api.Node
		want []api.Entry
	}{
		{file(0), nil}, {file(1), []api.Entry{size(1)}}, {file(262144), []api.Entry{size(262144)}}, {dir(), nil},
		{api.Node{Kind: 1, Size: 5, Map: []api.Run{}, Names: []api.Dent{}}, []api.Entry{size(5)}},
		{file(1, 0, 9, 1), []api.Entry{write(0, 1, 9, 1)}},
		{file(9000, 2, 9, 1), []api.Entry{write(2, 1, 9, 9000)}},
		{file(262144, 0, 9, 17, 17, 9, 16, 40, 5, 33), []api.Entry{write(0, 16, 9, 262144), write(16, 1, 25, 262144), write(17, 16, 9, 262144), write(40, 16, 5, 262144), write(56, 16, 21, 262144), write(72, 1, 37, 262144)}},
		{dir(dent("B", 3), dent("a", 2), dent("b", 3)), []api.Entry{add("B", 3), add("a", 2), add("b", 3)}},
	} {
		for i := range c.want {
			c.want[i].Seq = uint64(i + 1)
		}
		if got, e := inode.Canon(c.n); e != api.OK || !slices.Equal(got, c.want) {
			t.Errorf("Canon(%+v) = %+v, %d, want %+v", c.n, got, e, c.want)
		}
	}
}

// TestP9_6Nodes: of all good nodes; each entry is one that a log takes as it stands.
func TestP9_6Nodes(t *testing.T) {
	for _, n := range nodes() {
		told(t, "a good node", n)
		l, _ := inode.Canon(n)
		for i, e := range l {
			if _, err := layout.PackEntry(e); err != api.OK || e.Seq != uint64(i+1) {
				t.Fatalf("entry %d of %+v: %+v", i, n, e)
			}
		}
	}
}

// TestP9_6Error: beside ErrMeaning no list, so too where the wrong part stands behind good ones.
func TestP9_6Error(t *testing.T) {
	for _, n := range append(badNodes(), file(262144, 0, 9, 20, 30, 40, 2, 32, 42, 1), dir(dent("a", 2), dent("b", 2), dent("b", 2))) {
		if l, e := inode.Canon(n); e != api.ErrMeaning || len(l) != 0 {
			t.Errorf("Canon(%+v) = %v, %d", n, l, e)
		}
	}
}

// TestP9_7Pages: by rising file pages, not by rising device pages; one that stands at two places twice.
func TestP9_7Pages(t *testing.T) {
	for _, c := range []struct {
		n    api.Node
		want []int
	}{
		{file(0), nil}, {file(262144), nil}, {file(1, 0, 5, 1), []int{5}},
		{file(1536, 0, 10, 1, 1, 99, 1, 2, 12, 1), []int{10, 99, 12}},
		{file(262144, 0, 20, 2, 2, 20, 3, 511, 21, 1), []int{20, 21, 20, 21, 22, 21}},
		{file(262144, 4, 1020, 4, 300, 5, 2), []int{1020, 1021, 1022, 1023, 5, 6}},
		{dir(), nil}, {dir(dent("a", 2)), nil},
		{file(512, 0, 10, 2), nil}, {file(1024, 0, 10, 1, 1, 11, 1), nil}, {file(1024, 0, 10, 1, 1, 4, 1), nil}, {api.Node{Kind: 2, Map: runs(0, 10, 1)}, nil}, {api.Node{Size: 512, Map: runs(0, 10, 1)}, nil},
	} {
		if got := inode.Pages(c.n); !slices.Equal(got, c.want) {
			t.Errorf("Pages(%+v) = %v, want %v", c.n, got, c.want)
		}
	}
	if got := inode.Pages(file(262144, 0, 5, 512)); len(got) != 512 || got[0] != 5 || got[511] != 516 {
		t.Errorf("Pages of a whole file: %v", got)
	}
}

// TestP9_8Back: Replay of a good node's canonical entries means the node; and what Replay gives is good, so that it has canonical entries, and these again are its own.
func TestP9_8Back(t *testing.T) {
	back := func(n api.Node) {
		t.Helper()
		l, e := inode.Canon(n)
		if e != api.OK {
			t.Fatalf("Canon(%+v): %d", n, e)
		}
		got, e := inode.Replay(n.Kind, l)
		if e != api.OK || !same(got, api.Node{Kind: n.Kind, Size: n.Size, Map: n.Map, Names: n.Names, Entries: len(l)}) {
			t.Fatalf("%+v comes back as %+v, %d", n, got, e)
		}
		if again, e := inode.Canon(got); e != api.OK || !slices.Equal(again, l) {
			t.Fatalf("Canon of what came back: %v, %d, want %v", again, e, l)
		}
	}
	for _, n := range nodes() {
		n.Ino, n.Links, n.Head, n.Tail, n.Entries, n.Log = 4, 3, 2, 1, 99, []int{8}
		back(n)
	}
	for seed := range int64(200) {
		r := rand.New(rand.NewSource(seed))
		for i, l := range [][]api.Entry{someFile(r, r.Intn(40)), someDir(r, r.Intn(40))} {
			n, e := inode.Replay(1+i, l)
			if _, ok := isGood(n); e != api.OK || !ok {
				t.Fatalf("Replay gives %+v, %d", n, e)
			}
			back(n)
		}
	}
}

// TestP9_9Short: of a directory no more canonical entries than Adds.
func TestP9_9Short(t *testing.T) {
	for seed := range int64(200) {
		r := rand.New(rand.NewSource(seed))
		l := someDir(r, r.Intn(80))
		adds := 0
		for _, e := range l {
			if e.Kind == api.EntAdd {
				adds++
			}
		}
		n, _ := inode.Replay(api.KindDir, l)
		c, e := inode.Canon(n)
		if e != api.OK || len(c) > adds || len(c) != len(n.Names) {
			t.Fatalf("%d canonical entries of %d Adds, %d", len(c), adds, e)
		}
	}
}
