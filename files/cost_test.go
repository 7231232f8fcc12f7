package files_test

import (
	"strings"
	"testing"

	"furrow/api"
	"furrow/files"
	"furrow/pmem"
	"furrow/volume"
)

// scattered: a volume in which just so many pages are free, hardly two of them side by side; its files 2 and 3 have no bytes.
func scattered(t *testing.T, free int) (*pmem.Device, *volume.Volume) {
	t.Helper()
	d, v := fresh(t, api.Super{Pages: 100, Inodes: 8, Cores: 1}, 5)
	for p := 0; v.FreePages() > 2; p++ {
		writes(t, v, 4+p%2, 512*(p/2), "x")
	}
	n := node(t, v, 5)
	for size := n.Size; v.FreePages() < free && size > 0; size -= 512 {
		truncates(t, v, 5, size-size%512)
	}
	for p := 0; v.FreePages() > free; p++ {
		writes(t, v, 4, 512*(100+p), "x")
	}
	if v.FreePages() != free {
		t.Fatalf("%d pages are free; want %d", v.FreePages(), free)
	}
	return d, v
}

// TestP16_6Write: the greatest write touches nine pages; where the free ones lie apart it wants two log pages.
func TestP16_6Write(t *testing.T) {
	for _, c := range []struct{ off, n int }{{0, 1}, {0, 512}, {511, 2}, {100, 4096}, {0, 4096}, {511, 3000}} {
		pages := len(touched(c.off, c.n))
		_, v := scattered(t, pages+2)
		writes(t, v, 3, c.off, strings.Repeat("y", c.n))
		is(t, v, 3, zeros(c.off)+strings.Repeat("y", c.n), touched(c.off, c.n)...)
		d, v := scattered(t, pages-1)
		still(t, "too few pages", d, v, func() {
			if e := files.Write(v, 3, c.off, strings.Repeat("y", c.n)); e != api.ErrNoSpace {
				t.Errorf("%d pages are free: Write(3, %d, %d bytes) = %v", pages-1, c.off, c.n, e)
			}
		})
	}
	_, v := scattered(t, 11)
	writes(t, v, 3, 100, strings.Repeat("y", 4096))
	if n := node(t, v, 3); len(n.Log) != 2 || v.FreePages() != 0 {
		t.Errorf("nine pages apart: %d log pages, %d pages free", len(n.Log), v.FreePages())
	}
}

// TestP16_6Truncate: a page for what is cut, and one for the log.
func TestP16_6Truncate(t *testing.T) {
	for entries := 1; entries <= 8; entries++ {
		for _, size := range []int{100, 512, 1000, 0, 2000} {
			d, v := scattered(t, 20)
			for k := range entries {
				writes(t, v, 3, 512*(k%2), "abc")
			}
			for p := 0; v.FreePages() > 2; p++ {
				writes(t, v, 4, 512*(200+p), "x")
			}
			w := twinOf(t, d)
			if e := truncatesBeside(t, d, v, w, 3, size); e != api.OK {
				t.Errorf("two pages are free: Truncate(3, %d) behind %d entries = %v", size, entries, e)
			}
		}
	}
}

// TestP16_6TheMost: of a file whose log is full a cut wants both pages.
func TestP16_6TheMost(t *testing.T) {
	_, v := fresh(t, small, 2)
	for k := range 7 {
		writes(t, v, 2, 512*(k%2), "abc")
	}
	for p := 0; v.FreePages() > 2; p++ {
		writes(t, v, 3, 512*p, "x")
	}
	if n := node(t, v, 2); n.Entries != 7 || len(n.Log) != 1 || v.FreePages() != 2 {
		t.Fatalf("%+v, %d pages are free", n, v.FreePages())
	}
	truncates(t, v, 2, 514)
	if n := node(t, v, 2); n.Entries != 8 || len(n.Log) != 2 || v.FreePages() != 1 {
		t.Errorf("%+v, %d pages are free", n, v.FreePages())
	}
	is(t, v, 2, "abc"+zeros(509)+"ab", 0, 1)
}
