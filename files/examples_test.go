package files_test

import (
	"math"
	"testing"

	"furrow/api"
	"furrow/files"
	"furrow/pmem"
	"furrow/volume"
)

// example: the volume behind the steps of the chapter's examples up to that one.
func example(t *testing.T, upTo int) (*pmem.Device, *volume.Volume) {
	t.Helper()
	d, v := fresh(t, small, 1)
	steps := []func(){
		func() { writes(t, v, 2, 510, "abcd") },
		func() { writes(t, v, 2, 2000, "x") },
		func() { truncates(t, v, 2, 513); truncates(t, v, 2, 2001) },
		func() { truncates(t, v, 2, 1600); truncates(t, v, 2, 512); truncates(t, v, 2, 0) },
	}
	for i := 2; i <= upTo; i++ {
		steps[i-2]()
	}
	return d, v
}

func TestExample1(t *testing.T) {
	d, v := example(t, 1)
	still(t, "example 1", d, v, func() {
		reads(t, v, 2, 0, 10, "")
		reads(t, v, 2, 5, 10, "")
		for _, c := range []struct {
			ino, off, n int
			want        api.Errno
		}{
			{2, -1, 10, api.ErrOffset}, {2, 0, -1, api.ErrData}, {2, 0, 4097, api.ErrData}, {2, -1, -1, api.ErrOffset},
			{1, -1, -1, api.ErrIsDir}, {3, 0, 0, api.ErrNoFile}, {0, 0, 0, api.ErrNoFile},
		} {
			if s, e := files.Read(v, c.ino, c.off, c.n); s != "" || e != c.want {
				t.Errorf("Read(%d, %d, %d) = %q, %v; want %v", c.ino, c.off, c.n, s, e, c.want)
			}
		}
	})
}

func TestExample2(t *testing.T) {
	_, v := example(t, 2)
	is(t, v, 2, zeros(510)+"abcd", 0, 1)
	reads(t, v, 2, 508, 100, "\x00\x00abcd")
}

func TestExample3(t *testing.T) {
	_, v := example(t, 3)
	is(t, v, 2, zeros(510)+"abcd"+zeros(1486)+"x", 0, 1, 3)
	reads(t, v, 2, 512, 4, "cd\x00\x00")
}

func TestExample4(t *testing.T) {
	_, v := example(t, 3)
	truncates(t, v, 2, 513)
	is(t, v, 2, zeros(510)+"abc", 0, 1)
	if b, e := v.Page(2, 1); e != api.OK || string(b) != "c"+zeros(511) {
		t.Errorf("the cut page is %q, %v", b, e)
	}
	reads(t, v, 2, 510, 100, "abc")
	truncates(t, v, 2, 2001)
	reads(t, v, 2, 512, 3, "c\x00\x00")
	is(t, v, 2, zeros(510)+"abc"+zeros(1488), 0, 1)
}

func TestExample5(t *testing.T) {
	d, v := example(t, 4)
	was := node(t, v, 2)
	truncates(t, v, 2, 1600)
	is(t, v, 2, zeros(510)+"abc"+zeros(1087), 0, 1)
	if n := node(t, v, 2); n.Map[0] != was.Map[0] || n.Entries != was.Entries+1 {
		t.Errorf("an EntSize alone: %+v, then %+v", was, n)
	}
	still(t, "example 5", d, v, func() { truncates(t, v, 2, 1600) })
	was = node(t, v, 2)
	truncates(t, v, 2, 512)
	is(t, v, 2, zeros(510)+"ab", 0)
	if n := node(t, v, 2); n.Map[0].Page != was.Map[0].Page || n.Entries != was.Entries+1 {
		t.Errorf("an EntSize alone: %+v, then %+v", was, n)
	}
	truncates(t, v, 2, 0)
	is(t, v, 2, "")
}

func TestExample6(t *testing.T) {
	d, v := example(t, 5)
	still(t, "example 6", d, v, func() {
		for _, c := range []struct {
			off  int
			data string
			want api.Errno
		}{
			{262144, "", api.OK}, {262144, "a", api.ErrFBig}, {262145, "", api.ErrFBig}, {math.MaxInt, "ab", api.ErrFBig}, {-1, zeros(4097), api.ErrOffset},
		} {
			if e := files.Write(v, 2, c.off, c.data); e != c.want {
				t.Errorf("Write(2, %d, %d bytes) = %v; want %v", c.off, len(c.data), e, c.want)
			}
		}
		if e := files.Truncate(v, 2, 262145); e != api.ErrFBig {
			t.Error("Truncate(2, 262145):", e)
		}
		if e := files.Truncate(v, 2, -1); e != api.ErrOffset {
			t.Error("Truncate(2, -1):", e)
		}
	})
	writes(t, v, 2, 262143, "a")
	is(t, v, 2, zeros(262143)+"a", 511)
}
