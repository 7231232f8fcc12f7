package inode_test

import (
	"math/rand"
	"slices"
	"strconv"
	"testing"

	"furrow/api"
	"furrow/inode"
)

// TestP9_3Order: rising by bytes, in whatever order the names came and went.
func TestP9_3Order(t *testing.T) {
	for seed := range int64(20) {
		r := rand.New(rand.NewSource(seed))
		var l []api.Entry
		for _, i := range r.Perm(len(good)) {
			l = append(l, add(good[i], 2+i))
		}
		n, _ := replayed(t, "all names", api.KindDir, l)
		if len(n.Names) != len(good) || !slices.IsSortedFunc(n.Names, func(a, b api.Dent) int { return slices.Compare([]byte(a.Name), []byte(b.Name)) }) {
			t.Fatalf("Names: %v", n.Names)
		}
		for _, i := range r.Perm(len(good)) {
			n, _ = applied(t, "a name goes", n, drop(good[i]))
			n, _ = applied(t, "a name comes again", n, add(good[i], 256-i))
			n, _ = applied(t, "a name goes", n, drop(good[i]))
		}
		if len(n.Names) != 0 || n.Entries != 4*len(good) {
			t.Fatalf("behind all: %+v", n)
		}
	}
}

// TestP9_3Inodes: every inode but the root may have a name, several of them one.
func TestP9_3Inodes(t *testing.T) {
	n := dir()
	for ino := 2; ino <= 256; ino++ {
		n, _ = applied(t, "a name", n, add("n"+strconv.Itoa(ino), ino))
		n, _ = applied(t, "one name more of it", n, add("m"+strconv.Itoa(ino), ino))
	}
	told(t, "names of all inodes", n)
	if len(n.Names) != 510 {
		t.Errorf("%d names", len(n.Names))
	}
}

// TestP9_3Walk: long ways of Adds and Drops, one by one and at once.
func TestP9_3Walk(t *testing.T) {
	for seed := range int64(25) {
		l := someDir(rand.New(rand.NewSource(seed)), 120)
		n := api.Node{Kind: api.KindDir, Ino: 1, Links: 1, Head: 8, Tail: 7, Log: []int{6, 5}}
		for _, e := range l {
			n, _ = applied(t, "on the way", n, e)
			told(t, "on the way", n)
		}
		whole, _ := replayed(t, "the whole way", api.KindDir, l)
		if !slices.Equal(whole.Names, n.Names) || whole.Entries != n.Entries {
			t.Fatalf("Replay %+v, step by step %+v", whole, n)
		}
	}
}

// TestP9_3Many: a log of very many names doesn't cost their square.
func TestP9_3Many(t *testing.T) {
	const many = 60000
	var l []api.Entry
	for i := range many {
		l = append(l, add(strconv.Itoa(i*7919%many), 2+i%255))
	}
	n, e := inode.Replay(api.KindDir, l)
	if e != api.OK || len(n.Names) != many || n.Entries != many || n.Names[0].Name != "0" || n.Names[1].Name != "1" || n.Names[2].Name != "10" || n.Names[many-1].Name != "9999" {
		t.Fatalf("%d names, %d", len(n.Names), e)
	}
	c, e := inode.Canon(n)
	if e != api.OK || len(c) != many || c[many-1].Seq != many || c[many-1].Name != "9999" {
		t.Fatalf("%d canonical entries, %d", len(c), e)
	}
	for i := range many {
		l = append(l, drop(strconv.Itoa(i)))
	}
	if n, e = inode.Replay(api.KindDir, l); e != api.OK || len(n.Names) != 0 || n.Entries != 2*many {
		t.Fatalf("behind all drops: %d names, %d", len(n.Names), e)
	}
}
