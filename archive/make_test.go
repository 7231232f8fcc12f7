package archive_test

import (
	"slices"
	"strconv"
	"strings"
	"testing"

	"furrow/api"
	"furrow/archive"
)

// P21.1, P21.2: each byte in a name, alone and amid others.
func TestP21_1Bytes(t *testing.T) {
	for c := range 256 {
		s := string([]byte{byte(c)})
		for _, name := range []string{s, "a" + s, s + "a", "a" + s + "a", s + s, s + s + s} {
			want := c != 0 && !strings.Contains(name, "/") && name != "." && name != ".."
			if judged(t, []api.Member{file(name, 0)}) != want {
				t.Fatalf("%q: the test's own judge", name)
			}
			judged(t, []api.Member{dir("a"), file("a/"+name, 0)})
			judged(t, []api.Member{dir(name), file(name+"/b", 0)})
		}
	}
}

// P21.1, P21.2: names of 28 bytes and paths of 199, and one more; texts that are no path.
func TestP21_1Paths(t *testing.T) {
	long := strings.Repeat("n", 28)
	var list []api.Member
	for n := 1; n <= 6; n++ {
		list = append(list, dir(strings.TrimSuffix(strings.Repeat(long+"/", n), "/")))
	}
	deep := list[5].Path // 173 bytes
	for n := 0; n <= 29; n++ {
		for _, m := range []api.Member{dir(deep + "/" + long[:min(n, 28)] + strings.Repeat("n", max(0, n-28))), file(deep+"/"+strings.Repeat("a", n), 0)} {
			if judged(t, append(slices.Clip(list), m)) != (n > 0 && n <= 25) {
				t.Fatalf("%d bytes: the test's own judge", len(m.Path))
			}
		}
	}
	list = append(list, file(deep+"/"+long[:25], 0))
	if judged(t, append(slices.Clip(list), link("z", list[6].Path))); len(list[6].Path) != 199 {
		t.Fatal("the longest path isn't 199 bytes long")
	}
	ladder := []api.Member{}
	for n := 1; n <= 101; n++ {
		ladder = append(ladder, dir(strings.TrimSuffix(strings.Repeat("n/", n), "/")))
		if judged(t, ladder) != (n <= 100) {
			t.Fatalf("%d names: the test's own judge", n)
		}
	}
	for _, odd := range oddPaths {
		for _, kind := range []int{api.KindFile, api.KindDir, api.MemberLink} {
			m := api.Member{Kind: kind, Path: odd}
			if kind == api.MemberLink {
				m.Link = "A"
			}
			if judged(t, []api.Member{file("A", 0), m}) || judged(t, []api.Member{m}) || judged(t, []api.Member{dir("a"), dir("b"), dir("d"), m}) {
				t.Fatalf("%q: the test's own judge", odd)
			}
		}
		judged(t, []api.Member{file("a", 0), link("b", odd)})
	}
}

// P21.1: each two of many paths: the one must be ahead of the other.
func TestP21_1Order(t *testing.T) {
	dirs := []api.Member{dir("a"), dir("a/a"), dir("ab"), dir("b")}
	names := []string{"a", "b", "a.", "a-", "a0", "a\x01", "aa", "ab", "A", "\x01", "\xff", "-", "0", "..."}
	var paths []string
	for _, in := range []string{"", "a/", "a/a/", "ab/", "b/"} {
		for _, name := range names {
			paths = append(paths, in+name)
		}
	}
	both := 0
	for _, p := range paths {
		for _, q := range paths {
			list := []api.Member{}
			for _, d := range dirs { // those that the two need, in their order
				if d.Path != p && d.Path != q && (strings.HasPrefix(p, d.Path+"/") || strings.HasPrefix(q, d.Path+"/")) {
					list = append(list, d)
				}
			}
			at := slices.IndexFunc(list, func(m api.Member) bool { return isAhead(p, m.Path) })
			if at < 0 {
				at = len(list)
			}
			list = slices.Insert(list, at, dir(p))
			for at++; at < len(list) && isAhead(list[at].Path, q); at++ {
			}
			if judged(t, slices.Insert(list, at, dir(q))) {
				both++
			}
		}
	}
	if want := len(paths) * (len(paths) - 1) / 2; both != want {
		t.Errorf("%d of the pairs are in order; want %d", both, want)
	}
}

// P21.1, P21.2: what each kind may have, and each number of it beyond its bounds.
func TestP21_1Fields(t *testing.T) {
	x := page("x")
	numbers := append([]int{0, 1, 2, 3, 511, 512, 513, 600, 1024, 261632, 262143, 262144, 262145, 262656}, wild...)
	for _, n := range numbers {
		judged(t, []api.Member{{Kind: n, Path: "a"}})
		judged(t, []api.Member{file("a", 0), {Kind: n, Path: "b", Link: "a"}})
		judged(t, []api.Member{{Kind: api.KindDir, Path: "a", Size: n}})
		judged(t, []api.Member{file("a", n)})
		judged(t, []api.Member{file("a", 0), {Kind: api.MemberLink, Path: "b", Link: "a", Size: n}})
		for _, m := range numbers {
			judged(t, []api.Member{file("a", n, piece(m, x))})
			judged(t, []api.Member{file("a", n, piece(0, x), piece(m, x))})
			judged(t, []api.Member{file("a", n, piece(m, x), piece(512, x))})
			judged(t, []api.Member{file("a", n, piece(m, "x"))})
		}
	}
	for _, none := range [][]api.Piece{nil, {}} {
		for _, m := range []api.Member{file("a", 0, none...), file("a", 262144, none...), {Kind: api.KindDir, Path: "b", Pieces: none}, {Kind: api.MemberLink, Path: "b", Link: "a", Pieces: none}} {
			judged(t, []api.Member{file("Z", 0), file("a", 0), m})
			judged(t, []api.Member{m})
		}
	}
	for _, m := range []api.Member{
		{Kind: api.KindDir, Path: "b", Link: "a"}, {Kind: api.KindDir, Path: "b", Pieces: []api.Piece{{}}}, {Kind: api.KindDir, Path: "b", Size: 512, Pieces: []api.Piece{piece(0, x)}},
		{Kind: api.KindFile, Path: "b", Link: "a"}, {Kind: api.MemberLink, Path: "b", Link: "a", Pieces: []api.Piece{{}}}, {Kind: api.MemberLink, Path: "b", Link: "a", Size: 512, Pieces: []api.Piece{piece(0, x)}}, {Kind: api.MemberLink, Path: "b"},
	} {
		if judged(t, []api.Member{file("a", 0), m}) {
			t.Errorf("the test's own judge takes %+v", m)
		}
	}
}

// P21.1, P21.2: a piece has a page's bytes, or what is left of the file, and not all of them are 0.
func TestP21_1Pieces(t *testing.T) {
	for _, size := range []int{1, 2, 511, 512, 513, 600, 1023, 1024, 1025, 262143, 262144} {
		for _, off := range []int{0, 512, 1024, 261632} {
			for _, many := range []int{0, 1, 2, 87, 88, 89, 510, 511, 512, 513, 1024} {
				judged(t, []api.Member{file("a", size, piece(off, strings.Repeat("x", many)))})
			}
		}
	}
	for _, many := range []int{1, 88, 511, 512} {
		for at := range many {
			b := make([]byte, many)
			b[at] = byte(1 << (at % 8))
			if !judged(t, []api.Member{file("a", many, piece(0, string(b)))}) {
				t.Fatalf("byte %d of %d: the test's own judge", at, many)
			}
		}
		judged(t, []api.Member{file("a", many, piece(0, strings.Repeat("\x00", many)))})
		judged(t, []api.Member{file("a", many, piece(0, strings.Repeat("0", many)))})
		judged(t, []api.Member{file("a", many, piece(0, strings.Repeat(" ", many)))})
	}
	var all []api.Piece
	for off := 0; off < 262144; off += 512 {
		all = append(all, piece(off, page(strconv.Itoa(off))))
	}
	if !judged(t, []api.Member{file("a", 262144, all...)}) {
		t.Error("the test's own judge refuses a file without holes")
	}
	for _, k := range []int{1, 255, 511} {
		more := slices.Clone(all)
		more[k] = more[k-1]
		judged(t, []api.Member{file("a", 262144, more...)})
		judged(t, []api.Member{file("a", 262144, append(slices.Clip(all), all[k])...)})
	}
}

// P21.1, P21.2: at most 99 links to one file, however many to others.
func TestP21_1Links(t *testing.T) {
	names := func(to string, many int) []api.Member {
		list := []api.Member{file(to, 0)}
		for i := range many {
			list = append(list, link(to+strconv.Itoa(100+i), to))
		}
		return list
	}
	for n := 97; n <= 102; n++ {
		if judged(t, names("a", n)) != (n < 100) || judged(t, append(names("a", 99), names("b", n)...)) != (n < 100) || judged(t, append(names("a", n), names("b", 99)...)) != (n < 100) {
			t.Fatalf("%d links: the test's own judge", n)
		}
	}
	judged(t, append(names("a", 99), link("b", "a")))
	judged(t, append(names("a", 99), dir("b"), file("c", 0), link("d", "c"))) // of what is no link there may be any number
}

// P21.1, P21.2: at most MaxMembers members. (The test's own judge is too slow for so many.)
func TestP21_1Many(t *testing.T) {
	var list []api.Member
	for i := range 8194 {
		list = append(list, dir(strconv.Itoa(10000+i)))
		if i%3 == 0 {
			list[i] = file(list[i].Path, 1, piece(0, "x"))
		}
	}
	for _, n := range []int{8191, 8192, 8193, 8194} {
		want, wanted := api.OK, api.OK
		if n > 8192 {
			want, wanted = api.ErrMember, api.ErrArchive
		}
		b, e := archive.Make(list[:n])
		if e != want || e == api.OK && string(b) != string(bytesOf(list[:n])) || e != api.OK && b != nil {
			t.Errorf("%d members: Make = %d bytes, %v", n, len(b), e)
		}
		back, e := archive.Open(bytesOf(list[:n]))
		if e != wanted || e == api.OK && !same(back, list[:n]) || e != api.OK && back != nil {
			t.Errorf("%d members: Open = %d members, %v", n, len(back), e)
		}
	}
}

// P21.1 to P21.3: drawn lists, good and spoilt, are judged by the chapter's words; what is made is read back, byte for byte.
func TestP21_1Drawn(t *testing.T) {
	r := chance()
	good, bad := 0, 0
	for range 6000 {
		list := drawnGood(r, 14, 5)
		if !judged(t, list) {
			t.Fatalf("the test's own judge refuses%s", shown(list))
		}
		for range 3 {
			if list = spoilt(r, list); judged(t, list) {
				good++
			} else {
				bad++
			}
		}
	}
	if good < 1000 || bad < 1000 {
		t.Errorf("%d lists that were changed are good, %d aren't", good, bad)
	}
}

// P21.3: two unlike good lists have unlike bytes, and what Open reads makes just the bytes again.
func TestP21_3OnePicture(t *testing.T) {
	r := chance()
	seen := map[string][]api.Member{}
	unlike := 0
	for range 3000 {
		list := drawnGood(r, 4, 2)
		if r.Intn(2) == 0 {
			list = spoilt(r, list)
		}
		b, e := archive.Make(list)
		if e != api.OK {
			continue
		}
		if was, is := seen[string(b)]; is && !same(was, list) {
			t.Fatalf("P21.3: the same bytes of%s\nand of%s", shown(was), shown(list))
		} else if !is {
			unlike++
		}
		seen[string(b)] = list
		back, e := archive.Open(b)
		if e != api.OK || !same(back, list) {
			t.Fatalf("P21.3: Open = %v,%s\nof%s", e, shown(back), shown(list))
		}
		if again := made(t, back); string(again) != string(b) {
			t.Fatalf("P21.3: other bytes of%s", shown(back))
		}
	}
	if unlike < 1000 {
		t.Errorf("only %d unlike lists", unlike)
	}
}
