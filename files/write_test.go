package files_test

import (
	"math"
	"slices"
	"strings"
	"testing"

	"furrow/api"
	"furrow/files"
	"furrow/gc"
)

// over: what a plain text is behind a write.
func over(s string, off int, data string) string {
	if data == "" {
		return s
	}
	s += zeros(max(off+len(data)-len(s), 0))
	return s[:off] + data + s[off+len(data):]
}

// touched: the pages that a write touches.
func touched(off, n int) []int {
	var l []int
	if n > 0 {
		for p := off / 512; p <= (off+n-1)/512; p++ {
			l = append(l, p)
		}
	}
	return l
}

// both: the numbers of two lists, each once, rising.
func both(a, b []int) []int {
	l := append(slices.Clone(a), b...)
	slices.Sort(l)
	return slices.Compact(l)
}

// TestP16_3Write: at and around the ends of pages and of the file, in lengths up to the greatest; the bytes, the pages, the steps.
func TestP16_3Write(t *testing.T) {
	r := chance()
	for _, had := range []int{0, 1, 511, 512, 513, 1500} {
		for _, off := range []int{0, 1, 511, 512, 513, 1024, 1499, 1500, 1501, 2048, 3000, 262144 - 4096} {
			for _, n := range []int{1, 2, 511, 512, 513, 1024, 4095, 4096} {
				d, v := fresh(t, middling, 1)
				was := noise(r, had)
				writes(t, v, 2, 0, was)
				pages := mapped(node(t, v, 2))
				w := twinOf(t, d)
				data := noise(r, n)
				if e := writesBeside(t, d, v, w, 2, off, data); e != api.OK {
					t.Fatalf("Write(2, %d, %d bytes) = %v", off, n, e)
				}
				is(t, v, 2, over(was, off, data), both(pages, touched(off, n))...)
			}
		}
	}
}

// TestP16_3OneTransaction: one entry is behind a write of pages in a row, and all of it is one edit.
func TestP16_3OneTransaction(t *testing.T) {
	_, v := fresh(t, small, 1)
	writes(t, v, 2, 100, strings.Repeat("a", 1000))
	if n := node(t, v, 2); n.Entries != 1 || !slices.Equal(n.Map, []api.Run{{Off: 0, Page: 6, Count: 3}}) || n.Size != 1100 {
		t.Errorf("%+v", n)
	}
	writes(t, v, 2, 600, "b") // into a new place: R6
	if n := node(t, v, 2); n.Entries != 2 || !slices.Equal(n.Map, []api.Run{{Off: 0, Page: 6, Count: 1}, {Off: 1, Page: 10, Count: 1}, {Off: 2, Page: 8, Count: 1}}) || n.Size != 1100 {
		t.Errorf("%+v", n)
	}
}

// TestP16_3Nothing: empty data does nothing, wherever it may go.
func TestP16_3Nothing(t *testing.T) {
	d, v := fresh(t, small, 1)
	writes(t, v, 2, 0, "abc")
	still(t, "Write of nothing", d, v, func() {
		for _, off := range []int{0, 1, 3, 4, 512, 262143, 262144} {
			writes(t, v, 2, off, "")
		}
	})
}

// TestP16_3NothingIsCollected: where nothing is to be done there is no transaction: not even one behind which a log that has long been due would be written anew.
func TestP16_3NothingIsCollected(t *testing.T) {
	d, v := fresh(t, small, 2)
	for range 13 {
		writes(t, v, 2, 0, "a")
	}
	for p := 0; v.FreePages() > 0; p++ {
		writes(t, v, 3, 512*p, "x")
	}
	truncates(t, v, 2, 5)
	truncates(t, v, 3, 512)
	if n := node(t, v, 2); !gc.Due(n) || v.FreePages() < gc.Want(n) {
		t.Fatalf("%+v: a log that isn't due, or %d free pages", n, v.FreePages())
	}
	still(t, "nothing is to be done", d, v, func() {
		writes(t, v, 2, 0, "")
		truncates(t, v, 2, 5)
	})
	writes(t, v, 2, 1, "b")
	if n := node(t, v, 2); n.Entries != 1 {
		t.Errorf("%+v", n)
	}
	is(t, v, 2, "ab\x00\x00\x00", 0)
}

func TestP16_3Refused(t *testing.T) {
	d, v := fresh(t, small, 1)
	makes(t, v, 3, api.KindDir)
	writes(t, v, 2, 0, "abc")
	long := strings.Repeat("x", 4097)
	still(t, "Write", d, v, func() {
		for _, c := range []struct {
			ino, off int
			data     string
			want     api.Errno
		}{
			{2, -1, "", api.ErrOffset}, {2, -1, long, api.ErrOffset}, {2, math.MinInt, "a", api.ErrOffset}, {2, -5, "abcdefgh", api.ErrOffset},
			{2, 0, long, api.ErrData}, {2, 262144, long, api.ErrData}, {2, math.MaxInt, long, api.ErrData}, {2, 0, long + long, api.ErrData},
			{2, 262144, "a", api.ErrFBig}, {2, 262143, "ab", api.ErrFBig}, {2, 262145, "", api.ErrFBig}, {2, math.MaxInt, "", api.ErrFBig}, {2, math.MaxInt, "a", api.ErrFBig}, {2, math.MaxInt, long[1:], api.ErrFBig}, {2, math.MaxInt - 4095, long[1:], api.ErrFBig}, {2, 262144 - 4095, long[1:], api.ErrFBig}, {2, 1 << 32, "a", api.ErrFBig},
			{1, -1, long, api.ErrIsDir}, {3, -1, "", api.ErrIsDir}, {1, 0, "", api.ErrIsDir}, {3, 0, "a", api.ErrIsDir},
			{4, -1, long, api.ErrNoFile}, {0, 0, "a", api.ErrNoFile}, {9, 0, "", api.ErrNoFile}, {-2, 0, "a", api.ErrNoFile}, {1<<32 + 2, 0, "a", api.ErrNoFile}, {math.MinInt, 0, "a", api.ErrNoFile},
		} {
			if e := files.Write(v, c.ino, c.off, c.data); e != c.want {
				t.Errorf("Write(%d, %d, %d bytes) = %v; want %v", c.ino, c.off, len(c.data), e, c.want)
			}
		}
	})
	writes(t, v, 2, 262144-4096, long[1:])
	reads(t, v, 2, 262144-4097, 4096, "\x00"+long[2:])
}

// foreign: a file of three pages whose last one has bytes behind the end, as chapter 15's transactions may leave it.
func foreign(t *testing.T, size int) (w twin, d twin) {
	t.Helper()
	dev, v := fresh(t, small, 1)
	page := []byte(strings.Repeat("j", 512))
	does(t, v, api.Edit{Ino: 2, Fills: []api.Fill{{Off: 0, Data: page}, {Off: 1, Data: page}, {Off: 2, Data: page}}, Size: size})
	return twinOf(t, dev), twin{dev, v}
}

// TestP16_3ForeignBytes: a page that is touched has 0 behind the old end; one that isn't stays as it is.
func TestP16_3ForeignBytes(t *testing.T) {
	j := strings.Repeat("j", 1536)
	for _, c := range []struct {
		off  int
		data string
		want string
	}{
		{1100, "abc", j[:1034] + zeros(66) + "abc"},                // behind the end, in the same page
		{1030, "abc", j[:1030] + "abc" + j[:1]},                    // within the file
		{1033, "abc", j[:1033] + "abc"},                            // over its end
		{1034, "abc", j[:1034] + "abc"},                            // at its end
		{1535, "abc", j[:1034] + zeros(501) + "abc"},               // over the page's end
		{0, "abc", "abc" + j[:1031]},                               // another page
		{1536, "abc", j + "abc"},                                   // the next page: what stands behind the old end comes to light
		{500, strings.Repeat("q", 700), j[:500] + repeated(700)},   // over the whole of it
		{500, strings.Repeat("q", 1100), j[:500] + repeated(1100)}, // and beyond
	} {
		w, d := foreign(t, 1034)
		if e := writesBeside(t, d.d, d.v, w, 2, c.off, c.data); e != api.OK {
			t.Fatal("Write", e)
		}
		if s, e := files.Whole(d.v, 2); s != c.want || e != api.OK {
			t.Errorf("Write(2, %d, %d bytes): %d bytes, %v; want %d, the same up to %d", c.off, len(c.data), len(s), e, len(c.want), alikeUpTo(s, c.want))
		}
		n := node(t, d.v, 2)
		last, _ := d.v.Page(2, (n.Size-1)/512)
		if k := (n.Size-1)%512 + 1; slices.Contains(touched(c.off, len(c.data)), (n.Size-1)/512) && string(last[k:]) != zeros(512-k) {
			t.Errorf("Write(2, %d, %d bytes): a page that was touched has bytes behind the end", c.off, len(c.data))
		}
	}
}

func repeated(n int) string { return strings.Repeat("q", n) }

// TestP16_5WriteFillsHoles: none of the touched pages is a hole, even if all that is written is 0, and no other page is named.
func TestP16_5WriteFillsHoles(t *testing.T) {
	d, v := fresh(t, small, 2)
	writes(t, v, 3, 5, "other")
	other := node(t, v, 3)
	writes(t, v, 2, 0, zeros(512))
	is(t, v, 2, zeros(512), 0)
	writes(t, v, 2, 3*512-1, "\x00\x00")
	is(t, v, 2, zeros(3*512+1), 0, 2, 3)
	writes(t, v, 2, 1000, zeros(24))
	is(t, v, 2, zeros(3*512+1), 0, 1, 2, 3)
	if n := node(t, v, 3); !slices.Equal(n.Map, other.Map) || n.Size != other.Size || n.Entries != other.Entries {
		t.Errorf("another file changed: %+v", n)
	}
	is(t, v, 3, zeros(5)+"other", 0)
	if st := replayed(t, d.View()); len(st.Nodes) != 3 {
		t.Errorf("%+v", st)
	}
}

// TestP16_3NoSpace: nothing is changed where too few pages are free.
func TestP16_3NoSpace(t *testing.T) {
	d, v := fresh(t, small, 2)
	writes(t, v, 2, 0, strings.Repeat("a", 4096))
	writes(t, v, 3, 0, strings.Repeat("b", 4096))
	if v.FreePages() != 0 {
		t.Fatal("free pages:", v.FreePages())
	}
	still(t, "no space", d, v, func() {
		for _, e := range []api.Errno{files.Write(v, 2, 0, "x"), files.Write(v, 3, 262143, "x"), files.Truncate(v, 2, 1)} {
			if e != api.ErrNoSpace {
				t.Error("no page is free:", e)
			}
		}
		for _, e := range []api.Errno{files.Write(v, 2, 262143, "xy"), files.Write(v, 2, -1, "x"), files.Write(v, 2, 0, zeros(4097)), files.Truncate(v, 2, -1), files.Truncate(v, 2, 262145)} {
			if e == api.ErrNoSpace || e == api.OK {
				t.Error("refused ahead of Do:", e)
			}
		}
		writes(t, v, 2, 100, "")
		truncates(t, v, 2, 4096)
	})
	truncates(t, v, 2, 512) // an entry alone, for which the log has room
	is(t, v, 2, strings.Repeat("a", 512), 0)
	writes(t, v, 2, 0, "x")
}
