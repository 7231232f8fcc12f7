package names_test

import (
	"strings"
	"testing"

	"furrow/api"
	"furrow/names"
)

// TestP8_1New: no name in any directory, and each answer an index of its own.
func TestP8_1New(t *testing.T) {
	x, y := names.New(), names.New()
	if x == nil || y == nil || x == y {
		t.Fatal("New gives no index of its own")
	}
	(&model{}).agree(t, "a new index", x)
	x.Put(1, "a", 2)
	(&model{}).agree(t, "another new index", y)
	(&model{}).agree(t, "a later new index", names.New())
}

// TestP8_2Numbers: every inode number as a directory and as what is stood for, the two alike among them.
func TestP8_2Numbers(t *testing.T) {
	x, m := names.New(), &model{}
	for _, n := range inodes() {
		m.puts(t, x, n, "self", n)
		m.puts(t, x, n, "other", 257-n)
	}
	m.agree(t, "two names a directory", x)
}

// TestP8_2WrongNumbers: ErrInode, for either number, whatever the other one and the name are; nothing changes.
func TestP8_2WrongNumbers(t *testing.T) {
	x, m := filled(t, 1)
	for _, n := range wild {
		for _, name := range []string{"a", "new", "", ".", "a/b", strings.Repeat("x", 29)} {
			for _, k := range []int{n, 1, 256, 0} {
				for _, p := range [][2]int{{n, k}, {k, n}} {
					if e := x.Put(p[0], name, p[1]); e != api.ErrInode {
						t.Fatalf("Put(%d, %q, %d) = %d, want ErrInode", p[0], name, p[1], e)
					}
				}
			}
		}
	}
	m.agree(t, "behind wrong numbers", x)
}

// TestP8_2WrongNames: ErrName, in a directory with names and in one without; nothing changes.
func TestP8_2WrongNames(t *testing.T) {
	x, m := filled(t, 2)
	for _, name := range bad {
		for _, dir := range []int{1, 5, 256} {
			if e := x.Put(dir, name, 3); e != api.ErrName {
				t.Errorf("Put(%d, %q, 3) = %d, want ErrName", dir, name, e)
			}
			if x.Get(dir, name) != 0 {
				t.Errorf("Get(%d, %q) = %d", dir, name, x.Get(dir, name))
			}
		}
	}
	m.agree(t, "behind wrong names", x)
}

// TestP8_2EveryByte: every byte alone, in front, behind and between: a name but for 0, the slash and the dot alone; and all of them are names apart.
func TestP8_2EveryByte(t *testing.T) {
	x, m := names.New(), &model{}
	for c := range 256 {
		b := string([]byte{byte(c)})
		for _, name := range []string{b, b + "q", "q" + b, "q" + b + "q", strings.Repeat("q", 27) + b, b + strings.Repeat("q", 27)} {
			m.puts(t, x, 3, name, 1+c)
		}
	}
	m.agree(t, "names of every byte", x)
}

// TestP8_2Lengths: a name of each length, each the beginning of the next, and none beyond MaxName.
func TestP8_2Lengths(t *testing.T) {
	x, m := names.New(), &model{}
	for n := 40; n >= 0; n-- {
		m.puts(t, x, 9, strings.Repeat("z", n), 1+n)
	}
	m.agree(t, "names of every length", x)
	if x.Len(9) != 28 {
		t.Errorf("Len = %d, want 28", x.Len(9))
	}
}

// TestP8_2Have: a name that is there is refused, whatever inode it is to stand for, and stands for what it did; the same name in another directory is another.
func TestP8_2Have(t *testing.T) {
	x, m := filled(t, 3)
	for _, name := range good {
		was := x.Get(7, name)
		for _, ino := range []int{was, 4, 1, 256, 7} {
			if e := x.Put(7, name, ino); e != api.ErrHave {
				t.Fatalf("Put(7, %q, %d) = %d, want ErrHave", name, ino, e)
			}
			if x.Get(7, name) != was {
				t.Fatalf("Get(7, %q) = %d, want %d", name, x.Get(7, name), was)
			}
		}
		m.puts(t, x, 8, name, 4)
	}
	m.agree(t, "behind names that were there", x)
}

// TestP8_2OneInode: many names, in one directory and in several, stand for one inode, more than a file may have on a device.
func TestP8_2OneInode(t *testing.T) {
	x, m := names.New(), &model{}
	for dir := 1; dir <= 12; dir++ {
		for _, name := range good {
			m.puts(t, x, dir, name, 6)
		}
	}
	m.agree(t, "one inode", x)
	if n := x.Links(6); n != 12*len(good) {
		t.Errorf("Links(6) = %d", n)
	}
}
