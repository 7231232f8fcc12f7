package names_test

import (
	"testing"

	"furrow/api"
	"furrow/names"
)

// TestP8_3Get: of each pair of a directory and a text what the model has; 0 of what isn't there, wrong names and numbers too.
func TestP8_3Get(t *testing.T) {
	x, m := filled(t, 4)
	for i, name := range good {
		if i%3 == 0 {
			m.drops(t, x, 1, name)
			m.drops(t, x, 256, name)
		}
	}
	texts := append(append([]string{"new", "aaaa", "x", "y", "a "}, good...), bad...)
	for _, dir := range append(inodes(), wild...) {
		for _, name := range texts {
			want := 0
			if at := m.find(dir, name); at >= 0 {
				want = m.rows[at].ino
			}
			if got := x.Get(dir, name); got != want {
				t.Fatalf("Get(%d, %q) = %d, want %d", dir, name, got, want)
			}
		}
	}
	m.agree(t, "behind Get", x)
}

// TestP8_4Drop: each name goes alone: the inode that it stood for, then ErrNone.
func TestP8_4Drop(t *testing.T) {
	x, m := filled(t, 5)
	for i, name := range good {
		dir := []int{1, 2, 7, 256}[i%4]
		m.drops(t, x, dir, name)
		if ino, e := x.Drop(dir, name); ino != 0 || e != api.ErrNone {
			t.Fatalf("Drop(%d, %q) again = %d, %d", dir, name, ino, e)
		}
		if x.Get(dir, name) != 0 {
			t.Fatalf("Get(%d, %q) = %d", dir, name, x.Get(dir, name))
		}
		m.about(t, "behind Drop", x, 1, 2, 3, 7, 255, 256)
	}
	m.agree(t, "behind all drops", x)
}

// TestP8_4None: 0 and ErrNone of what isn't there, whatever numbers and texts; nothing changes.
func TestP8_4None(t *testing.T) {
	x, m := filled(t, 6)
	texts := append(append([]string{"new", "aaaa", "x"}, good...), bad...)
	for _, dir := range append([]int{3, 4, 8, 255}, wild...) {
		for _, name := range texts {
			if ino, e := x.Drop(dir, name); ino != 0 || e != api.ErrNone {
				t.Fatalf("Drop(%d, %q) = %d, %d, want 0, ErrNone", dir, name, ino, e)
			}
		}
	}
	for _, name := range append([]string{"new", "aaaa", "x"}, bad...) {
		m.drops(t, x, 1, name)
	}
	m.agree(t, "behind drops of nothing", x)
	m = &model{}
	x = names.New()
	m.drops(t, x, 1, "a")
	m.agree(t, "an index without names", x)
}

// TestP8_4Anew: a name that went may come again, for the same inode or another.
func TestP8_4Anew(t *testing.T) {
	x, m := filled(t, 7)
	for i, name := range good {
		ino, _ := x.Drop(2, name)
		m.drop(2, name)
		m.puts(t, x, 2, name, ino)
		m.drops(t, x, 2, name)
		m.puts(t, x, 2, name, 10+i)
	}
	m.agree(t, "names put in anew", x)
}

// TestP8_5Counts: Len and Links rise and fall with each name, down to nothing; of every number that has no names and of which none stand they are 0.
func TestP8_5Counts(t *testing.T) {
	x := names.New()
	check := func(what string, n, length, links int) {
		t.Helper()
		if x.Len(n) != length || x.Links(n) != links {
			t.Fatalf("%s: Len(%d) = %d, Links(%d) = %d, want %d and %d", what, n, x.Len(n), n, x.Links(n), length, links)
		}
	}
	for i, name := range good {
		check("ahead", 5, i, i)
		check("ahead", 9, i, i)
		x.Put(5, name, 9)
		x.Put(9, name, 5)
	}
	for i, name := range good {
		check("on the way down", 5, len(good)-i, len(good)-i)
		check("on the way down", 9, len(good), len(good)-i)
		x.Drop(5, name)
		x.Put(5, name, 77)
		x.Drop(5, name)
		x.Drop(9, name)
		x.Put(9, name, 30)
	}
	check("behind", 5, 0, 0)
	check("behind", 9, len(good), 0)
	check("behind", 30, 0, len(good))
	check("behind", 77, 0, 0)
	for _, n := range wild {
		check("a number that no inode has", n, 0, 0)
	}
}
