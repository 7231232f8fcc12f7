package names_test

import (
	"math"
	"runtime"
	"slices"
	"strings"
	"testing"

	"furrow/api"
	"furrow/names"
)

// TestR3ListIsNewMemory: whoever writes into an answer, or appends to it, changes no index and no other answer.
func TestR3ListIsNewMemory(t *testing.T) {
	x, m := filled(t, 16)
	y := x.Copy()
	want := m.list(1)
	for range 3 {
		a, b, c := x.List(1), x.List(1), y.List(1)
		a = a[:cap(a)]
		for i := range a {
			a[i] = api.Dent{Name: "spoilt", Ino: -7}
		}
		same(t, "another answer", b, want)
		same(t, "the copy's answer", c, want)
		same(t, "a later answer", x.List(1), want)
		m.agree(t, "the index", x)
		m.agree(t, "the copy", y)
	}
}

// TestR3AnswersAreApart: a body that writes into a list isn't seen by the loop over the same names.
func TestR3AnswersAreApart(t *testing.T) {
	x, m := filled(t, 17)
	l := x.List(2)
	i := 0
	for name, ino := range x.All(2) {
		clear(l[:cap(l)])
		l = x.List(2)
		if want := m.list(2)[i]; name != want.Name || ino != want.Ino {
			t.Fatalf("at %d: %q, %d, want %v", i, name, ino, want)
		}
		i++
	}
}

// TestR3NamesAreNotKept: a name that is handed in is copied: pieces of long texts don't hold these fast.
func TestR3NamesAreNotKept(t *testing.T) {
	x, m := names.New(), &model{}
	var ahead, behind runtime.MemStats
	runtime.GC()
	runtime.ReadMemStats(&ahead)
	for i := range 48 {
		long := strings.Repeat("long text ", 100000)
		m.puts(t, x, 1+i, good[i%len(good)], 2)
		x.Put(1+i, long[i%10:10+i%10], 3)
		m.put(1+i, strings.Clone(long[i%10:10+i%10]), 3)
		x.Get(1+i, long)
		x.Drop(1+i, long)
	}
	runtime.GC()
	runtime.ReadMemStats(&behind)
	if grown := int(behind.HeapAlloc) - int(ahead.HeapAlloc); grown > 12_000_000 {
		t.Errorf("%d bytes more are kept", grown)
	}
	m.agree(t, "names out of long texts", x)
}

// TestR1Wild: every call with wild numbers and texts, on an index without names and on a full one.
func TestR1Wild(t *testing.T) {
	full, mf := filled(t, 18)
	for _, c := range []struct {
		x *names.Index
		m *model
	}{{names.New(), &model{}}, {full, mf}} {
		for _, n := range wild {
			for _, name := range append(slices.Clone(bad), "a") {
				c.m.puts(t, c.x, n, name, n)
				c.m.puts(t, c.x, n, name, 1)
				c.m.puts(t, c.x, 1, name, n)
				c.m.drops(t, c.x, n, name)
				if c.x.Get(n, name) != 0 {
					t.Fatalf("Get(%d, %q) = %d", n, name, c.x.Get(n, name))
				}
			}
			c.m.clears(t, c.x, n)
		}
		c.m.agree(t, "behind wild calls", c.x)
	}
	if e := full.Put(math.MinInt, "", math.MaxInt); e != api.ErrInode {
		t.Errorf("Put = %d", e)
	}
}

// TestR4TwoIndexesAtOnce: indexes of several goroutines have nothing to do with one another; and one index may be read by several.
func TestR4TwoIndexesAtOnce(t *testing.T) {
	shared, m := filled(t, 19)
	done := make(chan int)
	for k := range 4 {
		go func() {
			x := names.New()
			for _, name := range good {
				x.Put(1+k, name, 9)
			}
			for name := range shared.All(7) {
				shared.Get(7, name)
			}
			shared.Copy().Clear(7)
			shared.Links(1)
			done <- x.Len(1+k)*1000 + x.Links(9)
		}()
	}
	for range 4 {
		if got := <-done; got != len(good)*1001 {
			t.Errorf("Len and Links: %d", got)
		}
	}
	m.agree(t, "the index that all read", shared)
}
