package inode_test

import (
	"math/rand"
	"slices"
	"testing"

	"furrow/api"
	"furrow/inode"
)

// TestP9_2Write: Writes of all lengths over holes, over other pages and over the same ones; what lies beside them stays.
func TestP9_2Write(t *testing.T) {
	for _, n := range []api.Node{file(262144), file(262144, 0, 300, 512), file(262144, 10, 60, 30, 45, 60, 9, 60, 120, 3), file(262144, 0, 5, 1, 511, 1023, 1)} {
		for count := 1; count <= 16; count++ {
			for _, off := range []int{0, 1, 9, 10, 11, 30, 39, 40, 44, 45, 50, 53, 54, 62, 512 - count} {
				for _, page := range []int{5, 50 + off, 60, 300 + off, 299 + off, 1024 - count} {
					applied(t, "a Write", n, write(off, count, min(page, 1024-count), 262144))
				}
			}
		}
	}
}

// TestP9_2Longest: a Write that fits between two runs makes them one; one that parts a run leaves both its ends; the same page twice in a row is no run.
func TestP9_2Longest(t *testing.T) {
	log := []api.Entry{write(0, 2, 10, 5*512), write(3, 2, 13, 5*512)}
	for _, c := range []struct {
		e    api.Entry
		want []api.Run
	}{
		{write(2, 1, 12, 5*512), runs(0, 10, 5)},
		{write(2, 1, 11, 5*512), runs(0, 10, 2, 2, 11, 1, 3, 13, 2)},
		{write(2, 1, 13, 5*512), runs(0, 10, 2, 2, 13, 1, 3, 13, 2)},
		{write(1, 3, 11, 5*512), runs(0, 10, 5)},
		{write(0, 5, 10, 5*512), runs(0, 10, 5)},
		{write(0, 5, 9, 5*512), runs(0, 9, 5)},
		{write(1, 1, 9, 5*512), runs(0, 10, 1, 1, 9, 1, 3, 13, 2)},
		{write(5, 3, 15, 8*512), runs(0, 10, 2, 3, 13, 5)},
		{write(5, 3, 15, 7*512+1), runs(0, 10, 2, 3, 13, 5)},
		{write(5, 3, 15, 7*512), runs(0, 10, 2, 3, 13, 4)},
		{size(4 * 512), runs(0, 10, 2, 3, 13, 1)},
		{size(3*512 + 1), runs(0, 10, 2, 3, 13, 1)},
		{size(3 * 512), runs(0, 10, 2)},
		{size(1), runs(0, 10, 1)},
		{size(0), nil},
		{write(511, 1, 1023, 0), nil},
	} {
		n, e := replayed(t, "longest runs", api.KindFile, append(slices.Clone(log), c.e))
		if e != api.OK || !slices.Equal(n.Map, c.want) || n.Size != c.e.Size {
			t.Errorf("behind %+v: %+v, %d, want the runs %v", c.e, n, e, c.want)
		}
	}
}

// TestP9_2EndPage: at every size about a page's edge the pages from the end page on are holes, by a Size and by a Write alike, and stay holes when the file grows again.
func TestP9_2EndPage(t *testing.T) {
	whole := file(262144, 0, 400, 512)
	for page := range 513 {
		for _, d := range []int{-511, -1, 0, 1, 511} {
			s := page*512 + d
			if s < 0 || s > 262144 {
				continue
			}
			cut, e := inode.Apply(whole, size(s))
			if e != api.OK || cut.Size != s {
				t.Fatalf("Size %d: %+v, %d", s, cut, e)
			}
			last := (s + 511) / 512
			if last == 0 && len(cut.Map) != 0 || last > 0 && !slices.Equal(cut.Map, runs(0, 400, last)) {
				t.Fatalf("Size %d: %v", s, cut.Map)
			}
			again, e := inode.Apply(cut, size(262144))
			if e != api.OK || again.Size != 262144 || !slices.Equal(again.Map, cut.Map) {
				t.Fatalf("Size %d, then all: %+v, %d", s, again, e)
			}
			if page%37 == 0 {
				applied(t, "a Write whose Size cuts", whole, write(max(0, min(page-2, 508)), 4, 90, s))
			}
		}
	}
}

// TestP9_2Behind: the pages of a Write behind its own Size are holes, and no other page of the file is lost by it.
func TestP9_2Behind(t *testing.T) {
	n := file(4*512, 0, 20, 4)
	for _, c := range []struct {
		e    api.Entry
		want []api.Run
	}{
		{write(6, 3, 50, 6*512), runs(0, 20, 4)},
		{write(6, 3, 50, 6*512+1), runs(0, 20, 4, 6, 50, 1)},
		{write(6, 3, 50, 262144), runs(0, 20, 4, 6, 50, 3)},
		{write(6, 3, 50, 1024), runs(0, 20, 2)},
		{write(1, 3, 50, 1024), runs(0, 20, 1, 1, 50, 1)},
		{write(1, 3, 50, 0), nil},
		{write(4, 1, 24, 5*512), runs(0, 20, 5)},
		{write(4, 1, 24, 4*512), runs(0, 20, 4)},
	} {
		if got, e := applied(t, "pages behind the size", n, c.e); e != api.OK || !slices.Equal(got.Map, c.want) {
			t.Errorf("behind %+v: %v, want %v", c.e, got.Map, c.want)
		}
	}
}

// TestP9_2Whole: a file of all pages, written backwards and forwards.
func TestP9_2Whole(t *testing.T) {
	var l []api.Entry
	for off := 511; off >= 0; off-- {
		l = append(l, write(off, 1, 100+off, 262144))
	}
	if n, _ := replayed(t, "backwards", api.KindFile, l); !slices.Equal(n.Map, runs(0, 100, 512)) {
		t.Errorf("backwards: %v", n.Map)
	}
	for off := 0; off < 512; off += 16 {
		l = append(l, write(off, 16, 496-off+5, 262144))
	}
	if n, _ := replayed(t, "pieces that fall", api.KindFile, l); len(n.Map) != 32 || n.Entries != 544 {
		t.Errorf("pieces that fall: %v", n.Map)
	}
}

// TestP9_2Walk: long ways of Writes and Sizes, one by one from node to node, and the whole list at once.
func TestP9_2Walk(t *testing.T) {
	for seed := range int64(25) {
		r := rand.New(rand.NewSource(seed))
		l := someFile(r, 60)
		n := api.Node{Kind: api.KindFile, Ino: 9, Links: 3, Head: 8, Tail: 7, Log: []int{6, 5}}
		for i, e := range l {
			n, _ = applied(t, "on the way", n, e)
			if i%5 == 0 {
				told(t, "on the way", n)
			}
		}
		whole, _ := replayed(t, "the whole way", api.KindFile, l)
		if whole.Size != n.Size || !slices.Equal(whole.Map, n.Map) || whole.Entries != n.Entries {
			t.Fatalf("Replay %+v, step by step %+v", whole, n)
		}
	}
}
