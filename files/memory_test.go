package files_test

import (
	"math/rand"
	"strings"
	"sync"
	"testing"
	"unsafe"

	"furrow/api"
	"furrow/files"
)

// TestR1NoPanic: whatever numbers and texts; a call that answers an error has done nothing.
func TestR1NoPanic(t *testing.T) {
	r := chance()
	d, v := fresh(t, small, 2)
	makes(t, v, 4, api.KindDir)
	writes(t, v, 2, 100, "abc")
	w := twinOf(t, d)
	number := func() int {
		return oneOf(r, append(wild, 1, 2, 3, 4, 5, 511, 512, 513, 4096, 4097, 262143, 262144, 262145))
	}
	for range 3000 {
		ino, a, b := number(), number(), number()
		if r.Intn(2) == 0 {
			ino = 2
		}
		readsBeside(t, v, w, ino, a, b)
		writesBeside(t, d, v, w, ino, a, strings.Repeat("z", min(max(b, 0), 5000)))
		truncatesBeside(t, d, v, w, ino, b)
		s, e := files.Whole(v, ino)
		if want, f := w.whole(ino); s != want || e != f {
			t.Fatalf("Whole(%d) = %d bytes, %v; want %d, %v", ino, len(s), e, len(want), f)
		}
	}
}

// TestR3NothingIsKept: data's memory is spoilt behind a write, what is read stays what it was.
func TestR3NothingIsKept(t *testing.T) {
	_, v := fresh(t, small, 1)
	b := []byte(strings.Repeat("a", 1024))
	writes(t, v, 2, 0, unsafe.String(&b[0], len(b)))
	clear(b)
	one, e := files.Read(v, 2, 0, 1024)
	if e != api.OK || one != strings.Repeat("a", 1024) {
		t.Error("data's memory was kept")
	}
	whole, _ := files.Whole(v, 2)
	writes(t, v, 2, 0, strings.Repeat("b", 1024))
	if one != strings.Repeat("a", 1024) || whole != one {
		t.Error("what was answered has changed")
	}
}

// TestR4Apart: two volumes have nothing to do with one another, and the same calls do the same to both.
func TestR4Apart(t *testing.T) {
	d, v := example(t, 3)
	m, w := example(t, 3)
	if string(d.View()) != string(m.View()) || d.Steps() != m.Steps() {
		t.Error("the same calls did not do the same")
	}
	still(t, "another volume", m, w, func() {
		truncates(t, v, 2, 0)
		writes(t, v, 2, 0, "else")
		v.Unmount()
	})
	is(t, w, 2, zeros(510)+"abcd"+zeros(1486)+"x", 0, 1, 3)
}

// TestR4Goroutines: several, each with a file of its own.
func TestR4Goroutines(t *testing.T) {
	d, v := fresh(t, api.Super{Pages: 300, Inodes: 16, Cores: 4}, 8)
	var group sync.WaitGroup
	failed := make([]string, 8)
	for k := range failed {
		group.Add(1)
		go func() {
			defer group.Done()
			r := rand.New(rand.NewSource(int64(k)))
			text := ""
			for range 40 {
				off, data := r.Intn(3000), noise(r, r.Intn(1500))
				if e := files.Write(v, k+2, off, data); e != api.OK {
					failed[k] = "Write: " + e.Error()
				}
				text = over(text, off, data)
				size := r.Intn(5000)
				if e := files.Truncate(v, k+2, size); e != api.OK {
					failed[k] = "Truncate: " + e.Error()
				}
				text = cutTo(text, size)
				if s, e := files.Whole(v, k+2); s != text || e != api.OK {
					failed[k] = "its bytes are others"
				}
				files.Read(v, 2+r.Intn(8), r.Intn(3000), r.Intn(4096))
			}
		}()
	}
	group.Wait()
	for k, what := range failed {
		if what != "" {
			t.Errorf("goroutine %d: %s", k, what)
		}
	}
	if st := replayed(t, d.View()); countOf(st.Free) != v.FreePages() || len(d.Doubts()) != 0 {
		t.Errorf("the device means %+v, doubts %v", st, d.Doubts())
	}
}
