package files_test

import (
	"math/rand"
	"reflect"
	"testing"

	"furrow/api"
	"furrow/files"
	"furrow/pmem"
	"furrow/volume"
)

// place: a place in a file, mostly near its beginning or at the edge of something.
func place(r *rand.Rand, size int) int {
	switch r.Intn(8) {
	case 0:
		return size
	case 1:
		return max(size-1-r.Intn(600), 0)
	case 2:
		return size + r.Intn(2000)
	case 3:
		return 512 * r.Intn(16)
	case 4:
		return r.Intn(262144)
	case 5:
		return oneOf(r, wild)
	case 6:
		return max(512*r.Intn(16)-1, 0)
	}
	return r.Intn(6000)
}

func length(r *rand.Rand) int {
	switch r.Intn(6) {
	case 0:
		return r.Intn(4)
	case 1:
		return 512 * r.Intn(9)
	case 2:
		return r.Intn(4200)
	}
	return r.Intn(700)
}

// plain: what the files of a session are as plain texts, by inode.
type plain map[int]string

// drawn: one call, on a volume, its twin and the plain texts.
func drawn(t *testing.T, r *rand.Rand, d *pmem.Device, v *volume.Volume, w twin, p plain, many int) {
	t.Helper()
	ino := 2 + r.Intn(many)
	if r.Intn(20) == 0 {
		ino = oneOf(r, append([]int{1}, wild...))
	}
	s := p[ino]
	free, all := v.FreePages(), v.State()
	switch r.Intn(7) {
	case 0, 1, 2:
		off, data := place(r, len(s)), noise(r, length(r))
		switch e := writesBeside(t, d, v, w, ino, off, data); {
		case e == api.OK:
			p[ino] = over(s, off, data)
		case e == api.ErrNoSpace && free >= len(touched(off, len(data)))+2:
			t.Fatalf("%d pages are free: Write of %d bytes from %d on answers %v", free, len(data), off, e)
		}
	case 3, 4:
		size := place(r, len(s))
		switch e := truncatesBeside(t, d, v, w, ino, size); {
		case e == api.OK:
			p[ino] = cutTo(s, size)
		case e == api.ErrNoSpace && free >= 2:
			t.Fatalf("%d pages are free: Truncate to %d answers %v", free, size, e)
		}
	default:
		readsBeside(t, v, w, ino, place(r, len(s)), length(r)-r.Intn(2))
	}
	others(t, all, v.State(), ino)
}

// others: whether all inodes but one are as they were.
func others(t *testing.T, was, now api.State, ino int) {
	t.Helper()
	for i, n := range was.Nodes {
		if n.Ino != ino && !reflect.DeepEqual(n, now.Nodes[i]) {
			t.Fatalf("a call on inode %d changed another: %+v, then %+v", ino, n, now.Nodes[i])
		}
	}
}

// TestT1PlainTexts: drawn calls, held against plain texts and against the edits of the chapter; the volume is mounted anew now and then.
func TestT1PlainTexts(t *testing.T) {
	r := chance()
	for _, c := range []struct {
		s           api.Super
		many, calls int
	}{{small, 2, 1500}, {tight, 3, 1000}, {middling, 4, 1500}, {large, 6, 400}} {
		d, v := fresh(t, c.s, c.many)
		w := twinOf(t, d)
		p := plain{}
		for i := range c.calls {
			drawn(t, r, d, v, w, p, c.many)
			if i%50 == 0 {
				for ino := 2; ino < 2+c.many; ino++ {
					if s, e := files.Whole(v, ino); s != p[ino] || e != api.OK {
						t.Fatalf("Whole(%d) = %d bytes, %v; want %d, the same up to %d", ino, len(s), e, len(p[ino]), alikeUpTo(s, p[ino]))
					}
				}
			}
			if i%200 == 199 {
				v = mounts(t, d)
				w.v = mounts(t, w.d)
			}
		}
		behindTheEnd(t, v, c.many)
	}
}

// behindTheEnd: R6: bytes of a file's page that lie behind its end are 0.
func behindTheEnd(t *testing.T, v *volume.Volume, many int) {
	t.Helper()
	for ino := 2; ino < 2+many; ino++ {
		n := node(t, v, ino)
		if n.Size%512 == 0 {
			continue
		}
		b, e := v.Page(ino, n.Size/512)
		if e != api.OK || string(b[n.Size%512:]) != zeros(512-n.Size%512) {
			t.Errorf("file %d has bytes behind its end, %v", ino, e)
		}
	}
}

// TestP16ForeignFiles: the same of files whose pages came about by transactions alone, with anything behind their ends.
func TestP16ForeignFiles(t *testing.T) {
	r := chance()
	for range 60 {
		d, v := fresh(t, middling, 2)
		for ino := 2; ino < 4; ino++ {
			var l []api.Fill
			for off := r.Intn(3); off < 8; off += 1 + r.Intn(3) {
				l = append(l, api.Fill{Off: off, Data: []byte(noise(r, 512))})
			}
			does(t, v, api.Edit{Ino: ino, Fills: l, Size: 512*l[len(l)-1].Off + 1 + r.Intn(1500)})
		}
		w := twinOf(t, d)
		for range 25 {
			ino := 2 + r.Intn(2)
			size := node(t, v, ino).Size
			switch r.Intn(3) {
			case 0:
				writesBeside(t, d, v, w, ino, place(r, size), noise(r, length(r)))
			case 1:
				truncatesBeside(t, d, v, w, ino, place(r, size))
			default:
				readsBeside(t, v, w, ino, place(r, size), length(r))
			}
		}
		for ino := 2; ino < 4; ino++ {
			s, e := files.Whole(v, ino)
			if want, f := w.whole(ino); s != want || e != f {
				t.Fatalf("Whole(%d) = %d bytes, %v; want %d, %v", ino, len(s), e, len(want), f)
			}
		}
	}
}
