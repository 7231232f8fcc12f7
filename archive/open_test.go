package archive_test

import (
	"bytes"
	"encoding/binary"
	"fmt"
	"hash/crc32"
	"math/rand"
	"slices"
	"strings"
	"testing"

	"furrow/api"
	"furrow/archive"
)

// scan: the next so many bytes; false, if they aren't there.
func scan(b *[]byte, many uint32) (string, bool) {
	if uint64(many) > uint64(len(*b)) {
		return "", false
	}
	s := string((*b)[:many])
	*b = (*b)[many:]
	return s, true
}

// numbers: the next so many halves.
func numbers(b *[]byte, many int) ([]uint32, bool) {
	s, ok := scan(b, uint32(4*many))
	list := make([]uint32, many)
	for i := range list {
		if ok {
			list[i] = binary.LittleEndian.Uint32([]byte(s[4*i:]))
		}
	}
	return list, ok
}

// meant: the good list whose bytes these are, read a second time; whether there is one.
func meant(b []byte) ([]api.Member, bool) {
	rest := slices.Clone(b)
	first, ok := scan(&rest, 64)
	if !ok {
		return nil, false
	}
	var list []api.Member
	for range binary.LittleEndian.Uint32([]byte(first[8:])) {
		h, ok := numbers(&rest, 5)
		if !ok {
			return nil, false
		}
		path, ok1 := scan(&rest, h[1])
		to, ok2 := scan(&rest, h[2])
		if !ok1 || !ok2 {
			return nil, false
		}
		m := api.Member{Kind: int(h[0]), Path: path, Link: to, Size: int(h[3])}
		for range h[4] {
			p, ok1 := numbers(&rest, 2)
			data, ok2 := scan(&rest, p[1])
			if !ok1 || !ok2 {
				return nil, false
			}
			m.Pieces = append(m.Pieces, piece(int(p[0]), data))
		}
		if _, ok := scan(&rest, 4); !ok {
			return nil, false
		}
		list = append(list, m)
	}
	return list, isGood(list) && bytes.Equal(bytesOf(list), b)
}

// opens: whether Open answers what the bytes mean; whether they are an archive.
func opens(t *testing.T, b []byte) bool {
	t.Helper()
	want, is := meant(b)
	list, e := archive.Open(b)
	switch {
	case is && (e != api.OK || !same(list, want)):
		t.Fatalf("P21.2: Open = %v,%s\nof the bytes of%s", e, shown(list), shown(want))
	case !is && (e != api.ErrArchive || list != nil):
		t.Fatalf("P21.2: Open = %v,%s\nof %.300q, which are no archive", e, shown(list), b)
	}
	return is
}

// rich: a list with all that a list has.
func rich() []api.Member {
	return []api.Member{
		file("A", 262144, piece(0, page("first")), piece(261632, page("last"))), dir("a"), dir("a/b"), file("a/b/c", 700, piece(0, page("x")), piece(512, strings.Repeat("y", 188))),
		link("a/b/d", "A"), file("a/z", 0), link("a.b", "a/b/c"), link("b", "A"), file("z", 9, piece(0, "\x00\x00\x00zeros\x00")),
	}
}

// P21.2: bytes that end too early, and bytes with more behind them.
func TestP21_2Ends(t *testing.T) {
	for _, list := range [][]api.Member{nil, example(), rich()} {
		b := bytesOf(list)
		if !opens(t, b) {
			t.Fatal("the test's own reader")
		}
		for n := range len(b) {
			refused(t, fmt.Sprintf("the first %d bytes of %d", n, len(b)), slices.Clip(b[:n]))
			refused(t, fmt.Sprintf("the first %d bytes of %d, with room behind them", n, len(b)), b[:n])
		}
		for _, more := range [][]byte{{0}, {0, 0, 0, 0}, b, b[64:], make([]byte, 64), summed(bodyOf(file("zz", 0)))} {
			if len(more) == 0 {
				continue
			}
			if opens(t, append(slices.Clip(b), more...)) || opens(t, append(slices.Clip(more), b...)) {
				t.Fatal("the test's own reader")
			}
		}
	}
}

// P21.2: the first line says how many members there are, and nothing else, with the right check or not.
func TestP21_2FirstLine(t *testing.T) {
	for _, list := range [][]api.Member{nil, example(), rich()} {
		whole := bytesOf(list)
		for _, n := range append([]int{0, 1, 2, 3, 4, 8, 9, 10, 8192, 8193}, wild...) {
			b := append(lineOf(n), whole[64:]...)
			if opens(t, b) != (uint32(n) == uint32(len(list))) {
				t.Fatalf("%d members of %d: the test's own reader", n, len(list))
			}
		}
		for at := range 60 {
			for _, c := range []byte{0, 1, 32, 255, whole[at] ^ 32, whole[at] ^ 1} {
				b := slices.Clone(whole)
				b[at] = c
				opens(t, b)
				opens(t, append(half(b[:60:60], int(crc32.ChecksumIEEE(b[:60]))), whole[64:]...))
			}
		}
	}
}

// P21.2: each half of each member says something else, with the right sum or not.
func TestP21_2Halves(t *testing.T) {
	list := rich()
	others := append([]int{0, 1, 2, 3, 5, 8, 511, 512, 600, 700, 1024, 261632, 262144}, wild...)
	for k, m := range list {
		body := bodyOf(m)
		halves := []int{0, 4, 8, 12, 16}
		for at := 20 + len(m.Path) + len(m.Link); at < len(body); at += 8 + int(binary.LittleEndian.Uint32(body[at+4:])) {
			halves = append(halves, at, at+4)
		}
		ahead, behind := bytesOf(list[:k])[64:], bytesOf(list[k+1:])[64:]
		put := func(member []byte) bool {
			return opens(t, slices.Concat(lineOf(len(list)), ahead, member, behind))
		}
		for _, at := range halves {
			was := int(binary.LittleEndian.Uint32(body[at:]))
			for _, n := range append(others, was+1, was-1, was^512, 2*was) {
				b := slices.Clone(body)
				binary.LittleEndian.PutUint32(b[at:], uint32(n))
				put(summed(b))
				if put(append(b, summed(body)[len(body):]...)) != (uint32(n) == uint32(was)) {
					t.Fatalf("the half at %d of %q: the test's own reader", at, m.Path)
				}
			}
		}
		for at := range 4 {
			b := summed(body)
			b[len(body)+at] ^= 1
			put(b)
		}
	}
}

// P21.2: each bit turned, anywhere.
func TestP21_2Bits(t *testing.T) {
	for _, list := range [][]api.Member{nil, example(), rich()} {
		b := bytesOf(list)
		for bit := range 8 * len(b) {
			b[bit/8] ^= 1 << (bit % 8)
			refused(t, fmt.Sprintf("an archive with bit %d turned", bit), b)
			b[bit/8] ^= 1 << (bit % 8)
		}
	}
}

// altered: the bytes of a list, some of them others; the sums are right again, most of the time.
func altered(r *rand.Rand, list []api.Member) []byte {
	b := lineOf(len(list) + pick(r, 0, 0, 0, 0, 1, -1))
	for _, m := range list {
		body := bodyOf(m)
		for range pick(r, 0, 0, 0, 1, 2) {
			switch at := r.Intn(len(body)); r.Intn(3) {
			case 0:
				body[at] = pick(r, 0, 1, body[at]^1, body[at]^32, '/', '.', byte(r.Intn(256)))
			case 1:
				body = slices.Delete(body, at, at+r.Intn(min(9, len(body)-at)))
			default:
				body = slices.Insert(body, at, pick(r, 0, '/', byte(r.Intn(256))))
			}
			if len(body) == 0 {
				break
			}
		}
		if b = append(b, summed(body)...); r.Intn(20) == 0 {
			b[r.Intn(len(b))] ^= 1
		}
	}
	return b
}

// P21.2: drawn bytes: archives that were altered, and any others.
func TestP21_2Drawn(t *testing.T) {
	r := chance()
	good, bad := 0, 0
	for range 20000 {
		if opens(t, altered(r, drawnGood(r, 6, 2))) {
			good++
		} else {
			bad++
		}
	}
	if good < 1000 || bad < 1000 {
		t.Errorf("%d of the altered bytes are archives, %d aren't", good, bad)
	}
	for range 3000 {
		b := make([]byte, r.Intn(300))
		r.Read(b)
		opens(t, b)
		opens(t, append(lineOf(r.Intn(4)), b...))
	}
}

// turned: the bytes with bits turned from one on, the first and the last of so many and any between.
func turned(r *rand.Rand, b []byte, from, many int) []byte {
	c := slices.Clone(b)
	for k := range many {
		if k == 0 || k == many-1 || r.Intn(2) == 0 {
			c[(from+k)/8] ^= 1 << ((from + k) % 8)
		}
	}
	return c
}

// P21.4: up to 32 bits in a row, turned in the first line or in a path, are found out.
func TestP21_4Told(t *testing.T) {
	r := chance()
	for _, list := range [][]api.Member{nil, example(), rich(), {dir(strings.Repeat("n", 28)), file(strings.Repeat("n", 28)+"/"+strings.Repeat("m", 28), 5, piece(0, "bytes"))}} {
		b := made(t, list)
		spans := [][2]int{{0, 64}}
		at := 64
		for _, m := range list {
			spans = append(spans, [2]int{at + 20, at + 20 + len(m.Path)})
			at += len(bodyOf(m)) + 4
		}
		for _, s := range spans {
			for from := 8 * s[0]; from < 8*s[1]; from++ {
				for many := 1; many <= min(32, 8*s[1]-from); many++ {
					for range 2 {
						refused(t, fmt.Sprintf("an archive with %d bits turned from %d on", many, from), turned(r, b, from, many))
					}
				}
			}
		}
	}
}
