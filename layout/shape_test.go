package layout_test

import (
	"fmt"
	"math"
	"strings"
	"testing"

	"furrow/api"
	"furrow/layout"
)

// shape: what P3.1 says of a super.
func shape(s api.Super) (api.Shape, bool) {
	if s.Pages < 24 || s.Pages > 1024 || s.Inodes < 8 || s.Inodes > 256 || s.Cores < 1 || s.Cores > 8 {
		return api.Shape{}, false
	}
	if s.Inodes%8 != 0 || s.Pages-4-s.Inodes/8 < 8 {
		return api.Shape{}, false
	}
	return api.Shape{Pages: s.Pages, Inodes: s.Inodes, Cores: s.Cores, Data: 4 + s.Inodes/8}, true
}

// superLine: what the chapter says of a superblock's bytes.
func superLine(mark string, pages, inodes, cores uint32) api.Line {
	return line([]byte(mark), low(uint64(pages), 4), low(uint64(inodes), 4), low(uint64(cores), 4))
}

func lineOf(s api.Super) api.Line {
	return superLine("FURROW01", uint32(s.Pages), uint32(s.Inodes), uint32(s.Cores))
}

func everySuper(do func(api.Super)) {
	for pages := 20; pages <= 1028; pages++ {
		for inodes := -8; inodes <= 272; inodes += 4 {
			for cores := -1; cores <= 10; cores++ {
				if pages < 48 || pages%100 == 24 || pages > 1020 {
					do(api.Super{Pages: pages, Inodes: inodes, Cores: cores})
				}
			}
		}
	}
	for _, n := range append(wild, 0) {
		for _, s := range []api.Super{{Pages: n, Inodes: 256, Cores: 8}, {Pages: 1024, Inodes: n, Cores: 8}, {Pages: 1024, Inodes: 256, Cores: n}, {Pages: n, Inodes: n, Cores: n}, {Pages: n + 1024, Inodes: 256, Cores: 8}, {Pages: 1024, Inodes: n + 8, Cores: 8}} {
			do(s)
		}
	}
}

func TestP3_1FitAndP3_4PackSuper(t *testing.T) {
	everySuper(func(s api.Super) {
		want, good := shape(s)
		e, l := api.OK, api.Line{}
		if good {
			l = lineOf(s)
		} else {
			e = api.ErrShape
		}
		got, f := layout.Fit(s)
		answered(t, fmt.Sprintf("Fit(%+v)", s), got, f, want, e)
		packed, f := layout.PackSuper(s)
		answered(t, fmt.Sprintf("PackSuper(%+v)", s), packed, f, l, e)
	})
}

func TestP3_2SlotAt(t *testing.T) {
	for ino := -300; ino <= 600; ino++ {
		want := -1
		if isInode(ino) {
			want = 2048 + 64*(ino-1)
		}
		if got := layout.SlotAt(ino); got != want {
			t.Errorf("SlotAt(%d) = %d, want %d", ino, got, want)
		}
	}
	for _, ino := range wild {
		if got := layout.SlotAt(ino); got != -1 {
			t.Errorf("SlotAt(%d) = %d, want -1", ino, got)
		}
	}
}

func named(t *testing.T, name string, want bool) {
	t.Helper()
	if got := layout.ValidName(name); got != want {
		t.Errorf("ValidName(%q) = %v", name, got)
	}
}

func TestP3_3Lengths(t *testing.T) {
	for n := range 300 {
		named(t, strings.Repeat("n", n), n >= 1 && n <= 28)
		named(t, strings.Repeat("\xff", n), n >= 1 && n <= 28)
		named(t, strings.Repeat(".", n), n >= 3 && n <= 28)
	}
	named(t, strings.Repeat("é", 14), true)
	named(t, strings.Repeat("é", 15), false)
	named(t, strings.Repeat("n", 1<<20), false)
}

func TestP3_3EveryByteAtEveryPlace(t *testing.T) {
	for _, n := range []int{1, 2, 3, 9, 28} {
		for at := range n {
			for x := range 256 {
				b := []byte(strings.Repeat("\xc3", n))
				b[at] = byte(x)
				named(t, string(b), x != 0 && x != '/' && !(n == 1 && x == '.'))
			}
		}
	}
}

func TestP3_3Dots(t *testing.T) {
	for name, want := range map[string]bool{".": false, "..": false, "...": true, ".a": true, "a.": true, "..a": true, ". ": true, " .": true, ".\x00": false, "..\x00": false, "./": false, "../": false, "/..": false} {
		named(t, name, want)
	}
}

func opensSuper(t *testing.T, l api.Line, want api.Super, f api.Errno) {
	t.Helper()
	s, e := layout.OpenSuper(l)
	answered(t, fmt.Sprintf("OpenSuper(%x)", l), s, e, want, f)
}

func TestP3_4OpenSuper(t *testing.T) {
	everySuper(func(s api.Super) {
		if _, good := shape(s); good {
			opensSuper(t, lineOf(s), s, api.OK)
		} else if s.Pages == int(int32(s.Pages)) && s.Inodes == int(int32(s.Inodes)) && s.Cores == int(int32(s.Cores)) {
			opensSuper(t, lineOf(s), api.Super{}, api.ErrSuper)
		}
	})
	opensSuper(t, api.Line{}, api.Super{}, api.ErrSuper)
	opensSuper(t, line(nil), api.Super{}, api.ErrSuper)
	for _, n := range []uint32{0, 1 << 31, 1<<31 + 24, math.MaxUint32, 1<<24 + 24} {
		for _, l := range []api.Line{superLine("FURROW01", n, 8, 1), superLine("FURROW01", 24, n, 1), superLine("FURROW01", 24, 8, n)} {
			opensSuper(t, l, api.Super{}, api.ErrSuper)
		}
	}
}

func TestP3_4Letters(t *testing.T) {
	for _, mark := range []string{"FURROW02", "furrow01", "FURROWSV", "FURROW0\x00", "10WORRUF", "\x00\x00\x00\x00\x00\x00\x00\x00"} {
		opensSuper(t, superLine(mark, 24, 8, 1), api.Super{}, api.ErrSuper)
	}
}

func TestP3_4EveryByteSpoilt(t *testing.T) {
	s := api.Super{Pages: 300, Inodes: 16, Cores: 2}
	l := lineOf(s)
	for at := range l {
		for x := 1; x < 256; x++ {
			bad := l
			bad[at] ^= byte(x)
			opensSuper(t, bad, api.Super{}, api.ErrSuper)
		}
	}
}

func TestP3_4ZerosBehindTheNumbers(t *testing.T) {
	l := lineOf(api.Super{Pages: 300, Inodes: 16, Cores: 2})
	for at := 20; at < 60; at++ {
		for _, x := range []byte{1, 128, 255} {
			bad := l
			bad[at] = x
			opensSuper(t, line(bad[:60]), api.Super{}, api.ErrSuper)
		}
	}
}

// image: n bytes that begin with two lines, as far as there is room.
func image(n int, first, second api.Line) []byte {
	b := join(first[:], second[:], make([]byte, n))
	return b[:n:n]
}

func TestP3_5FindSuper(t *testing.T) {
	one, two, more := api.Super{Pages: 24, Inodes: 8, Cores: 1}, api.Super{Pages: 24, Inodes: 16, Cores: 2}, api.Super{Pages: 25, Inodes: 8, Cores: 1}
	a, b, c := lineOf(one), lineOf(two), lineOf(more)
	spoilt := a
	spoilt[63] ^= 1
	inFirst, inSecond, wide := api.Shape{Pages: 24, Inodes: 8, Cores: 1, Data: 5}, api.Shape{Pages: 24, Inodes: 16, Cores: 2, Data: 6}, api.Shape{Pages: 25, Inodes: 8, Cores: 1, Data: 5}
	var none api.Line
	for i, x := range []struct {
		first, second api.Line
		bytes         int
		want          api.Shape
	}{
		{a, a, 24 * 512, inFirst},
		{a, b, 24 * 512, inFirst},
		{b, a, 24 * 512, inSecond},
		{a, none, 24 * 512, inFirst},
		{a, c, 24 * 512, inFirst},
		{a, spoilt, 24 * 512, inFirst},
		{none, b, 24 * 512, inSecond},
		{c, b, 24 * 512, inSecond},
		{spoilt, b, 24 * 512, inSecond},
		{a, c, 25 * 512, wide},
		{c, a, 25 * 512, wide},
		{a, b, 25 * 512, api.Shape{}},
		{c, c, 24 * 512, api.Shape{}},
		{spoilt, spoilt, 24 * 512, api.Shape{}},
		{none, none, 24 * 512, api.Shape{}},
		{none, none, 0, api.Shape{}},
	} {
		e := api.OK
		if x.want == (api.Shape{}) {
			e = api.ErrSuper
		}
		got, f := layout.FindSuper(image(x.bytes, x.first, x.second))
		answered(t, fmt.Sprintf("case %d: FindSuper", i), got, f, x.want, e)
	}
}

func TestP3_5OnlyTheFirstTwoLines(t *testing.T) {
	a := lineOf(api.Super{Pages: 24, Inodes: 8, Cores: 1})
	for _, at := range []int{1, 8, 32, 63, 65, 127, 128, 192, 512} {
		b := make([]byte, 24*512)
		copy(b[at:], a[:])
		s, e := layout.FindSuper(b)
		answered(t, fmt.Sprintf("FindSuper, the line at %d", at), s, e, api.Shape{}, api.ErrSuper)
	}
	rest := anyBytes(chance(), 24*512)
	copy(rest, a[:])
	s, e := layout.FindSuper(rest)
	answered(t, "FindSuper, other bytes behind the line", s, e, api.Shape{Pages: 24, Inodes: 8, Cores: 1, Data: 5}, api.OK)
}

func TestP3_5EveryNumberOfBytes(t *testing.T) {
	a := lineOf(api.Super{Pages: 24, Inodes: 8, Cores: 1})
	for n := range 25 * 512 {
		if n < 200 || n > 24*512-70 {
			s, e := layout.FindSuper(image(n, a, a))
			if (e == api.OK) != (n == 24*512) || (s == api.Shape{}) != (e == api.ErrSuper) {
				t.Errorf("FindSuper of %d bytes = %+v, %v", n, s, e)
			}
		}
	}
	s, e := layout.FindSuper(nil)
	answered(t, "FindSuper(nil)", s, e, api.Shape{}, api.ErrSuper)
}

func TestP3_5LargestDevice(t *testing.T) {
	l := lineOf(api.Super{Pages: 1024, Inodes: 256, Cores: 8})
	for _, b := range [][]byte{image(1024*512, l, api.Line{}), image(1024*512, api.Line{}, l)} {
		s, e := layout.FindSuper(b)
		answered(t, "FindSuper", s, e, api.Shape{Pages: 1024, Inodes: 256, Cores: 8, Data: 36}, api.OK)
	}
}
