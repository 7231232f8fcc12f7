package tree_test

import (
	"fmt"
	"reflect"
	"sync"
	"testing"
	"unsafe"

	"furrow/api"
	"furrow/tree"
)

// TestR1NoPanic: whatever numbers and texts; a call that answers an error has done nothing.
func TestR1NoPanic(t *testing.T) {
	r := chance()
	d, v := furnished(t)
	w := twinOf(t, d)
	number := func() int { return oneOf(r, append([]int{1, 2, 3, 4, 5, 6, 7, 8, 9, 10, 16, 17}, wild...)) }
	text := func() string {
		if r.Intn(2) == 0 {
			return oneOf(r, badNames)
		}
		return oneOf(r, []string{"a", "f", "e", "d", "g", "h", "s", "t", "u", "k", "new", "\xff\xfe"})
	}
	for range 4000 {
		call{oneOf(r, []string{"make", "link", "unlink", "rmdir", "move"}), number(), text(), number(), text()}.beside(t, d, v, w)
		ino := number()
		s, e := tree.Stat(v, ino)
		if n, want := v.Node(ino); e != want || s.Ino != n.Ino || s.Kind != n.Kind || s.Links != n.Links {
			t.Fatalf("Stat(%d) = %+v, %v; the node is %+v, %v", ino, s, e, n, want)
		}
	}
}

// spoilt: a text whose memory is spoilt behind the call.
func spoilt(text string, call func(text string)) {
	b := []byte(text)
	call(unsafe.String(&b[0], len(b)))
	for i := range b {
		b[i] = '?'
	}
}

// TestR3NothingIsKept: the memory of names is spoilt behind each call; what was told stays what it was.
func TestR3NothingIsKept(t *testing.T) {
	_, v := fresh(t, small)
	spoilt("dir", func(s string) { makes(t, v, 1, s, api.KindDir) })
	spoilt("file", func(s string) { makes(t, v, 2, s, api.KindFile) })
	spoilt("more", func(s string) { links(t, v, 1, s, 3) })
	spoilt("else", func(s string) { movesTo(t, v, 1, "more", 2, s) })
	leads(t, v, "/ /dir /dir/else /dir/file", 1, 2, 3, 3)
	l := walked(t, v)
	spoilt("else", func(s string) { movesTo(t, v, 2, s, 1, "z") })
	spoilt("file", func(s string) { unlinks(t, v, 2, s) })
	spoilt("dir", func(s string) { rmdirs(t, v, 1, s) })
	leads(t, v, "/ /z", 1, 3)
	if l[1].Path != "/dir" || l[2].Path != "/dir/else" || l[3].Path != "/dir/file" || l[3].Stat.Links != 2 {
		t.Errorf("what was told has changed: %+v", l)
	}
	one, two := walked(t, v), walked(t, v)
	one[0].Path, one[1].Stat.Ino = "?", 7
	_ = append(one[:1], api.Item{})
	if two[0].Path != "/" || two[1].Stat.Ino != 3 || !reflect.DeepEqual(two, walked(t, v)) {
		t.Error("two walks share memory")
	}
}

// TestR4Apart: two volumes have nothing to do with one another, and the same calls do the same to both.
func TestR4Apart(t *testing.T) {
	d, v := furnished(t)
	m, w := furnished(t)
	if string(d.View()) != string(m.View()) || d.Steps() != m.Steps() {
		t.Error("the same calls did not do the same")
	}
	still(t, "another volume", m, w, func() {
		makes(t, v, 1, "new", api.KindFile)
		movesTo(t, v, 1, "a", 1, "e")
		unlinks(t, v, 1, "f")
		walked(t, v)
		v.Unmount()
	})
	leads(t, w, "/ /a /a/g /a/h /a/s /a/s/t /a/s/t/u /d /d/k /e /f", 1, 2, 5, 3, 6, 7, 8, 9, 8, 4, 3)
}

// TestR4Goroutines: several, each with a directory and a file of its own.
func TestR4Goroutines(t *testing.T) {
	d, v := fresh(t, api.Super{Pages: 300, Inodes: 32, Cores: 4})
	for k := range 8 {
		makes(t, v, 1, fmt.Sprint("d", k), api.KindDir)
		makes(t, v, 2+2*k, "f", api.KindFile)
		writes(t, v, 3+2*k, 0, fmt.Sprint("bytes of ", k))
	}
	was := walked(t, v)
	var group sync.WaitGroup
	failed := make([]string, 8)
	for k := range failed {
		group.Add(1)
		go func() {
			defer group.Done()
			dir, f := 2+2*k, 3+2*k
			fails := func(what string, e api.Errno) {
				if e != api.OK {
					failed[k] = what + ": " + e.Error()
				}
			}
			for i := range 40 {
				name := fmt.Sprint("n", i)
				fails("Link", tree.Link(v, dir, name, f))
				fails("Move", tree.Move(v, dir, name, dir, "other"))
				if s, e := tree.Stat(v, f); e != api.OK || s.Links != 2 {
					failed[k] = "its links are others"
				}
				_, e := tree.Walk(v)
				fails("Walk", e)
				fails("Unlink", tree.Unlink(v, dir, "other"))
			}
		}()
	}
	group.Wait()
	for k, what := range failed {
		if what != "" {
			t.Errorf("goroutine %d: %s", k, what)
		}
	}
	if !reflect.DeepEqual(walked(t, v), was) || !reflect.DeepEqual(replayed(t, d.View()), v.State()) || len(d.Doubts()) != 0 {
		t.Error("the tree is another one")
	}
}
