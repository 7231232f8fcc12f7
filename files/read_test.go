package files_test

import (
	"math"
	"strings"
	"testing"

	"furrow/api"
	"furrow/files"
)

// edges: places around which something may go wrong in a file of that size.
func edges(size int) []int {
	var l []int
	for _, at := range []int{0, 512, 1024, 4096, size - size%512, size, size + 512, 262144} {
		for _, by := range []int{-2, -1, 0, 1, 2, 511} {
			if at+by >= 0 {
				l = append(l, at+by)
			}
		}
	}
	return append(l, math.MaxInt, math.MaxInt-1, math.MaxInt-4096, 1<<31, 1<<32, 1<<62)
}

// TestP16_1Read: every edge of files with holes and without, by every number of bytes that may be one.
func TestP16_1Read(t *testing.T) {
	r := chance()
	for _, c := range []struct{ off, length, size int }{{0, 0, 0}, {0, 1, 1}, {0, 512, 512}, {0, 513, 513}, {700, 4096, 5000}, {5000, 3000, 9000}, {0, 4096, 4096}, {261000, 1144, 262144}} {
		d, v := fresh(t, small, 1)
		data := noise(r, c.length)
		writes(t, v, 2, c.off, data)
		truncates(t, v, 2, c.size)
		want := zeros(c.off) + data
		want = (want + zeros(c.size))[:c.size]
		still(t, "Read", d, v, func() {
			for _, off := range edges(c.size) {
				for _, n := range []int{0, 1, 2, 511, 512, 513, 1024, 4095, 4096} {
					from := min(off, c.size)
					reads(t, v, 2, off, n, want[from:min(from+n, c.size)])
				}
			}
		})
	}
}

// TestP16_1Refused: in the order of the errors, and nothing is done.
func TestP16_1Refused(t *testing.T) {
	d, v := fresh(t, small, 1)
	makes(t, v, 3, api.KindDir)
	writes(t, v, 2, 0, "abc")
	still(t, "Read", d, v, func() {
		for _, c := range []struct {
			ino, off, n int
			want        api.Errno
		}{
			{2, -1, 0, api.ErrOffset}, {2, math.MinInt, 0, api.ErrOffset}, {2, -512, 4096, api.ErrOffset}, {2, -1, 4097, api.ErrOffset}, {2, -1, -1, api.ErrOffset},
			{2, 0, -1, api.ErrData}, {2, 0, 4097, api.ErrData}, {2, 0, math.MaxInt, api.ErrData}, {2, 0, math.MinInt, api.ErrData}, {2, 3, -1, api.ErrData}, {2, math.MaxInt, 4097, api.ErrData}, {2, 0, 1<<32 + 1, api.ErrData},
			{1, -1, -1, api.ErrIsDir}, {3, -1, -1, api.ErrIsDir}, {1, 0, 0, api.ErrIsDir}, {3, 0, 1, api.ErrIsDir},
			{4, -1, -1, api.ErrNoFile}, {8, 0, 1, api.ErrNoFile}, {9, 0, 1, api.ErrNoFile}, {0, -1, 1, api.ErrNoFile}, {-2, 0, 1, api.ErrNoFile}, {math.MaxInt, 0, 1, api.ErrNoFile}, {math.MinInt, 0, 1, api.ErrNoFile}, {1<<32 + 2, 0, 1, api.ErrNoFile},
		} {
			if s, e := files.Read(v, c.ino, c.off, c.n); s != "" || e != c.want {
				t.Errorf("Read(%d, %d, %d) = %q, %v; want %v", c.ino, c.off, c.n, s, e, c.want)
			}
		}
	})
}

// TestP16_2Whole: files from none to all the bytes that may be, and what is no file.
func TestP16_2Whole(t *testing.T) {
	r := chance()
	d, v := fresh(t, large, 2)
	makes(t, v, 4, api.KindDir)
	want := noise(r, 262144)
	for off := 0; off < len(want); off += 4096 {
		writes(t, v, 2, off, want[off:off+4096])
	}
	still(t, "Whole", d, v, func() {
		for ino, c := range map[int]struct {
			s string
			e api.Errno
		}{1: {"", api.ErrIsDir}, 2: {want, api.OK}, 3: {"", api.OK}, 4: {"", api.ErrIsDir}, 5: {"", api.ErrNoFile}, 0: {"", api.ErrNoFile}, -1: {"", api.ErrNoFile}, 257: {"", api.ErrNoFile}, math.MinInt: {"", api.ErrNoFile}} {
			if s, e := files.Whole(v, ino); s != c.s || e != c.e {
				t.Errorf("Whole(%d) = %d bytes, %v; want %d, %v", ino, len(s), e, len(c.s), c.e)
			}
		}
	})
	for _, size := range []int{262143, 100001, 513, 512, 511, 1, 0} {
		truncates(t, v, 2, size)
		if s, e := files.Whole(v, 2); s != want[:size] || e != api.OK {
			t.Errorf("Whole of %d bytes: %d, %v", size, len(s), e)
		}
	}
	truncates(t, v, 3, 262144)
	if s, e := files.Whole(v, 3); s != zeros(262144) || e != api.OK {
		t.Errorf("Whole of a hole: %d, %v", len(s), e)
	}
}

// TestP16_7WhatWasReadIsWritten: every byte stays as it was, at every place and in every length.
func TestP16_7WhatWasReadIsWritten(t *testing.T) {
	r := chance()
	_, v := fresh(t, middling, 2)
	data := noise(r, 3000)
	writes(t, v, 2, 700, data)
	writes(t, v, 2, 8000, "end")
	want := zeros(700) + data + zeros(4300) + "end"
	for range 300 {
		off, n := r.Intn(8100), r.Intn(4097)
		s, e := files.Read(v, 2, off, n)
		if e != api.OK {
			t.Fatal("Read", e)
		}
		if off > 8003 {
			off = 8003 // nothing was read: nothing is written
		}
		writes(t, v, 2, off, s)
		if got, e := files.Whole(v, 2); got != want || e != api.OK {
			t.Fatalf("behind Write(2, %d, %d bytes) of what was read: %d bytes, the same up to %d, %v", off, len(s), len(got), alikeUpTo(got, want), e)
		}
	}
}

// TestP16_1ForeignBytes: what stands behind the end of a file in its last page isn't read, whoever put it there.
func TestP16_1ForeignBytes(t *testing.T) {
	d, v := fresh(t, small, 1)
	does(t, v, api.Edit{Ino: 2, Fills: []api.Fill{{Off: 0, Data: []byte(strings.Repeat("j", 512))}}, Size: 5})
	still(t, "Read", d, v, func() {
		reads(t, v, 2, 0, 4096, "jjjjj")
		reads(t, v, 2, 4, 10, "j")
		reads(t, v, 2, 5, 10, "")
		is(t, v, 2, "jjjjj", 0)
	})
}
