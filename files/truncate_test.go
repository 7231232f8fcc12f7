package files_test

import (
	"math"
	"slices"
	"strings"
	"testing"

	"furrow/api"
	"furrow/files"
)

// below: the pages of a list that lie ahead of a size's end page.
func below(pages []int, size int) []int {
	return slices.DeleteFunc(slices.Clone(pages), func(p int) bool { return p >= (size+511)/512 })
}

func cutTo(s string, size int) string { return (s + zeros(max(size-len(s), 0)))[:size] }

// TestP16_4Truncate: files with holes, at their beginning, amid them, at their end and nowhere, cut and lengthened to sizes at the edges of all of it.
func TestP16_4Truncate(t *testing.T) {
	r := chance()
	sizes := []int{0, 1, 511, 512, 513, 1023, 1024, 1025, 1535, 1536, 1537, 2047, 2048, 2049, 2999, 3000, 3001, 3071, 3072, 3073, 5000, 262143, 262144}
	for _, c := range []struct{ off, n, size int }{{0, 3000, 3000}, {1100, 900, 3000}, {0, 1500, 3000}, {2048, 952, 3000}, {0, 0, 3000}, {0, 3000, 3072}, {0, 0, 0}, {0, 1, 1}} {
		for _, size := range sizes {
			d, v := fresh(t, small, 2)
			writes(t, v, 3, 0, "other")
			writes(t, v, 2, c.off, noise(r, c.n))
			truncates(t, v, 2, c.size)
			was, e := files.Whole(v, 2)
			if e != api.OK {
				t.Fatal("Whole", e)
			}
			pages := mapped(node(t, v, 2))
			w := twinOf(t, d)
			truncatesBeside(t, d, v, w, 2, size)
			is(t, v, 2, cutTo(was, size), below(pages, size)...)
			is(t, v, 3, "other", 0)
			truncatesBeside(t, d, v, w, 2, 3000) // what was cut is 0 when it comes again
			is(t, v, 2, cutTo(cutTo(was, size), 3000), below(below(pages, size), 3000)...)
		}
	}
}

// TestP16_4Ways: by a Fill only where bytes of a page that stays are cut and it is no hole; else by an entry, the pages in their places.
func TestP16_4Ways(t *testing.T) {
	for _, c := range []struct {
		size int
		fill bool
	}{{1300, true}, {1025, true}, {1535, true}, {1024, false}, {512, false}, {1, true}, {0, false}, {1700, false}, {2047, false}, {2048, false}, {2900, true}, {2999, true}, {3001, false}, {3072, false}, {5000, false}} {
		_, v := fresh(t, small, 1)
		writes(t, v, 2, 0, strings.Repeat("a", 1536))
		writes(t, v, 2, 2048, strings.Repeat("b", 952)) // page 3 is a hole
		was, free := node(t, v, 2), v.FreePages()
		truncates(t, v, 2, c.size)
		n := node(t, v, 2)
		if n.Entries != was.Entries+1 {
			t.Errorf("Truncate(2, %d): %d entries, then %d", c.size, was.Entries, n.Entries)
		}
		gone := len(mapped(was)) - len(mapped(n))
		if v.FreePages() != free+gone {
			t.Errorf("Truncate(2, %d): %d pages gone, %d free, then %d", c.size, gone, free, v.FreePages())
		}
		for _, p := range mapped(n) {
			if moved := standsAt(n, p) != standsAt(was, p); moved != (c.fill && p == c.size/512) {
				t.Errorf("Truncate(2, %d): page %d stood at %d and stands at %d", c.size, p, standsAt(was, p), standsAt(n, p))
			}
		}
	}
}

// standsAt: the device page of a file's page, 0 of a hole.
func standsAt(n api.Node, off int) int {
	for _, r := range n.Map {
		if r.Off <= off && off < r.Off+r.Count {
			return r.Page + off - r.Off
		}
	}
	return 0
}

func TestP16_4Same(t *testing.T) {
	for _, size := range []int{0, 1, 512, 700, 262144} {
		d, v := fresh(t, small, 1)
		writes(t, v, 2, 0, noise(chance(), min(size, 700)))
		truncates(t, v, 2, size)
		still(t, "Truncate to the same size", d, v, func() { truncates(t, v, 2, size) })
	}
}

func TestP16_4Refused(t *testing.T) {
	d, v := fresh(t, small, 1)
	makes(t, v, 3, api.KindDir)
	writes(t, v, 2, 0, "abc")
	still(t, "Truncate", d, v, func() {
		for _, c := range []struct {
			ino, size int
			want      api.Errno
		}{
			{2, -1, api.ErrOffset}, {2, -512, api.ErrOffset}, {2, math.MinInt, api.ErrOffset},
			{2, 262145, api.ErrFBig}, {2, math.MaxInt, api.ErrFBig}, {2, 1 << 32, api.ErrFBig}, {2, 1<<32 + 3, api.ErrFBig},
			{1, -1, api.ErrIsDir}, {1, 0, api.ErrIsDir}, {3, 262145, api.ErrIsDir}, {3, 0, api.ErrIsDir},
			{4, -1, api.ErrNoFile}, {0, 0, api.ErrNoFile}, {9, 262145, api.ErrNoFile}, {-1, 0, api.ErrNoFile}, {1<<32 + 2, 0, api.ErrNoFile}, {math.MinInt, 0, api.ErrNoFile},
		} {
			if e := files.Truncate(v, c.ino, c.size); e != c.want {
				t.Errorf("Truncate(%d, %d) = %v; want %v", c.ino, c.size, e, c.want)
			}
		}
	})
	truncates(t, v, 2, 262144)
	reads(t, v, 2, 0, 5, "abc\x00\x00")
}

// TestP16_4ForeignBytes: what stands behind the end of a file that came from elsewhere is cut with the page, or comes to light when the file grows over it.
func TestP16_4ForeignBytes(t *testing.T) {
	j := strings.Repeat("j", 1536)
	for _, c := range []struct {
		size int
		want string // behind growing to 1600 bytes
	}{
		{1030, j[:1030] + zeros(570)}, // its last page is cut
		{1034, j + zeros(64)},         // the same size: nothing is done
		{1035, j + zeros(64)},         // it grows
		{1024, j[:1024] + zeros(576)}, // its last page goes
		{1, j[:1] + zeros(1599)},
		{0, zeros(1600)},
	} {
		w, d := foreign(t, 1034)
		truncatesBeside(t, d.d, d.v, w, 2, c.size)
		if s, e := files.Whole(d.v, 2); s != j[:c.size] || e != api.OK {
			t.Errorf("Truncate(2, %d): %d bytes, %v; the same up to %d", c.size, len(s), e, alikeUpTo(s, j))
		}
		truncatesBeside(t, d.d, d.v, w, 2, 1600)
		if s, e := files.Whole(d.v, 2); s != c.want || e != api.OK {
			t.Errorf("Truncate(2, %d), then 1600: %d bytes, %v; the same up to %d", c.size, len(s), e, alikeUpTo(s, c.want))
		}
	}
}
