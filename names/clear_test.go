package names_test

import (
	"math/rand"
	"testing"

	"furrow/names"
)

// TestP8_8Clear: all names of a directory go, and none of another, those that stand for the directory among them.
func TestP8_8Clear(t *testing.T) {
	for _, dir := range []int{1, 2, 7, 256} {
		x, m := filled(t, 12)
		m.puts(t, x, 99, "stands for it", dir)
		m.clears(t, x, dir)
		m.agree(t, "behind Clear", x)
		if x.Get(99, "stands for it") != dir {
			t.Errorf("Get = %d, want %d", x.Get(99, "stands for it"), dir)
		}
		m.clears(t, x, dir)
		for i, name := range good {
			m.puts(t, x, dir, name, 1+i)
		}
		m.agree(t, "names put in anew", x)
	}
}

// TestP8_8None: 0, and nothing goes, of a directory without names and of a number that no inode has.
func TestP8_8None(t *testing.T) {
	x, m := filled(t, 13)
	for _, n := range append([]int{3, 255, 6}, wild...) {
		if got := x.Clear(n); got != 0 {
			t.Errorf("Clear(%d) = %d", n, got)
		}
	}
	m.agree(t, "behind clears of nothing", x)
	if names.New().Clear(1) != 0 {
		t.Error("Clear of an index without names")
	}
}

// TestP8_8Each: directory by directory, till nothing is left.
func TestP8_8Each(t *testing.T) {
	x, m := names.New(), &model{}
	for i, n := range inodes() {
		for _, name := range good[:1+i%5] {
			m.puts(t, x, n, name, 1+i*7%256)
		}
	}
	for _, n := range inodes() {
		m.clears(t, x, n)
		m.about(t, "behind Clear", x, n, 1, 2, 255, 256)
	}
	(&model{}).agree(t, "behind all clears", x)
}

// TestP8_9Copy: the same names, and nothing that is done with one is seen by the other, nor by a copy's copy.
func TestP8_9Copy(t *testing.T) {
	x, m := filled(t, 14)
	y := x.Copy()
	z := y.Copy()
	if y == nil || z == nil || x == y || y == z {
		t.Fatal("Copy gives no index of its own")
	}
	my, mz := m.copy(), m.copy()
	my.agree(t, "the copy", y)
	for i, name := range good {
		m.drops(t, x, 1, name)
		m.puts(t, x, 9, name, 2)
		my.drops(t, y, 2, name)
		my.puts(t, y, 2, name, 1+i)
	}
	m.agree(t, "the index", x)
	my.agree(t, "the copy", y)
	m.clears(t, x, 7)
	my.clears(t, y, 256)
	m.agree(t, "the index, cleared", x)
	my.agree(t, "the copy, cleared", y)
	mz.agree(t, "the copy's copy", z)
}

// TestP8_9CopyOfNone: a copy of an index without names can be filled, one that never had any and one that lost them.
func TestP8_9CopyOfNone(t *testing.T) {
	x, m := names.New(), &model{}
	y := x.Copy()
	m.puts(t, y, 1, "a", 2)
	m.agree(t, "the copy", y)
	(&model{}).agree(t, "the index", x)
	y.Clear(1)
	z, mz := y.Copy(), &model{}
	mz.puts(t, z, 3, "a", 2)
	mz.agree(t, "the copy of one that lost its names", z)
	(&model{}).agree(t, "the one that lost its names", y)
}

// TestP8_9All: an answer of All goes over the index that gave it, not over its copies; a copy that is taken amid a loop has what is there then.
func TestP8_9All(t *testing.T) {
	x, m := filled(t, 15)
	all := x.All(2)
	y := x.Copy()
	y.Clear(2)
	n := 0
	for name := range all {
		m.drops(t, x, 2, name)
		n++
		if n%10 == 0 {
			m.agree(t, "a copy amid a loop", x.Copy())
		}
	}
	if n != len(good) {
		t.Errorf("%d names, want %d", n, len(good))
	}
}

// TestP8_10Walk: long ways of all calls in no order, on indexes and copies of them, with few names that meet often; at every time all sums and lists are right.
func TestP8_10Walk(t *testing.T) {
	for seed := range int64(6) {
		r := rand.New(rand.NewSource(seed))
		x, m := names.New(), &model{}
		dirs := []int{1, 2, 3, 9, 256, 0, 257, -1}
		texts := append(append([]string{}, good[:9]...), "", "..", "a/b")
		for step := range 1500 {
			dir, name, ino := dirs[r.Intn(len(dirs))], texts[r.Intn(len(texts))], dirs[r.Intn(len(dirs))]
			switch r.Intn(20) {
			default:
				m.puts(t, x, dir, name, ino)
			case 0, 1, 2, 3, 4, 5, 6:
				m.drops(t, x, dir, name)
			case 7:
				m.clears(t, x, dir)
			case 8:
				old, mo := x, m
				x, m = x.Copy(), m.copy()
				m.puts(t, x, 1, "only in the copy", 2)
				mo.about(t, "what was copied", old, dirs...)
				m.drops(t, x, 1, "only in the copy")
			}
			m.about(t, "on the way", x, dirs...)
			if step%250 == 0 {
				m.agree(t, "on the way", x)
			}
		}
	}
}
