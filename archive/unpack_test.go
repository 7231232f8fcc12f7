package archive_test

import (
	"bytes"
	"errors"
	"math/rand"
	"reflect"
	"strings"
	"testing"

	"furrow/api"
	"furrow/archive"
	"furrow/fs"
	"furrow/pmem"
)

// furnished: a middling file system with the directories /d and /d/e and the files /f and /d/g.
func furnished(t *testing.T) (*pmem.Device, *fs.FS) {
	t.Helper()
	d, f := fresh(t, middling)
	did(t, f.Mkdir("/d"), f.Mkdir("/d/e"), f.Create("/f"), f.Write("/f", 0, "of f"), f.Link("/f", "/d/g"))
	return d, f
}

// oddUnders: paths below which nothing can be made, and why.
var oddUnders = []struct {
	text string
	e    api.Errno
}{
	{"", api.ErrPathForm}, {"d", api.ErrPathForm}, {".", api.ErrPathForm}, {"d/", api.ErrPathForm}, {"/\x00", api.ErrPathForm}, {"/d\x00/", api.ErrPathForm},
	{"/" + strings.Repeat("n", 29), api.ErrNameLong}, {"/q/" + strings.Repeat("n", 29), api.ErrNameLong}, {strings.Repeat("/", 201), api.ErrPathLong}, {strings.Repeat("n", 201), api.ErrPathLong}, {"/" + strings.Repeat("d/", 9000), api.ErrPathLong},
	{"/q", api.ErrNoEnt}, {"/q/", api.ErrNoEnt}, {"/q/..", api.ErrNoEnt}, {"/d/q", api.ErrNoEnt}, {"/d/e/f", api.ErrNoEnt},
	{"/f", api.ErrNotDir}, {"/d/g", api.ErrNotDir}, {"/d/../f", api.ErrNotDir}, {"/f/", api.ErrNotDir}, {"/f/.", api.ErrNotDir}, {"/f/..", api.ErrNotDir}, {"/f/q", api.ErrNotDir}, {"/d/g//", api.ErrNotDir},
}

// P21.6: the first of the refusals that holds, ahead of the first member; nothing is done then.
func TestP21_6Refused(t *testing.T) {
	d, f := furnished(t)
	good, bad := made(t, example()), [][]byte{nil, {}, make([]byte, 64), []byte("FURROWAR"), append(made(t, nil), 0), bytesOf([]api.Member{file("a/b", 0)})}
	for _, under := range oddUnders {
		for _, b := range append(bad, good, made(t, nil)) {
			still(t, "Unpack", d, func() { unpackTells(t, f, under.text, b, 0, under.text, under.e) })
		}
	}
	for _, under := range []string{"/", "//", "///", "/d", "/d/", "/d//", "/d/.", "/d/..", "/d/../", "/./d/e", "/..", strings.Repeat("/", 200)} {
		for _, b := range bad {
			still(t, "Unpack", d, func() { unpackTells(t, f, under, b, 0, under, api.ErrArchive) })
		}
		still(t, "Unpack", d, func() { unpacked(t, f, under, made(t, nil)) })
	}
	did(t, f.Unmount())
	for _, under := range append([]string{"/", "/d", "/d/"}, func() (l []string) {
		for _, u := range oddUnders {
			l = append(l, u.text)
		}
		return l
	}()...) {
		for _, b := range append(bad, good, made(t, nil)) {
			still(t, "Unpack", d, func() { unpackTells(t, f, under, b, 0, under, api.ErrClosed) })
		}
	}
}

// P21.6: a file system whose device died is closed; one whose device's death nobody has met isn't, till a member is made.
func TestP21_6Dead(t *testing.T) {
	d, f := furnished(t)
	d.Arm(0)
	unpackTells(t, f, "/q", nil, 0, "/q", api.ErrNoEnt)
	unpackTells(t, f, "/", nil, 0, "/", api.ErrArchive)
	unpacked(t, f, "/", made(t, nil))
	unpackTells(t, f, "/d//", made(t, example()), 0, "/d/d", api.ErrDead)
	unpackTells(t, f, "/q", nil, 0, "/q", api.ErrClosed)
	unpackTells(t, f, "/", made(t, nil), 0, "/", api.ErrClosed)
}

// beside: Unpack of a list below a path, beside the chapter's operations on a twin: both answer the same, and their devices have the same bytes and did as many steps. What it answered.
func beside(t *testing.T, image []byte, under string, list []api.Member) api.Errno {
	t.Helper()
	d, twin := load(t, image), load(t, image)
	f, hand := mounts(t, d), mounts(t, twin)
	n, err := archive.Unpack(f, under, bytesOf(list))
	k, at, e := byHand(hand, strings.TrimRight(under, "/"), list)
	if n != k || (err == nil) != (e == api.OK) || err != nil && !tells(err, "unpack", at, e) {
		t.Fatalf("P21.6: Unpack(%q) = %d, %v; want %d, %q %v:%s", under, n, err, k, at, e, shown(list))
	}
	if d.Steps() != twin.Steps() || !bytes.Equal(d.View(), twin.View()) || !reflect.DeepEqual(d.Doubts(), twin.Doubts()) {
		t.Fatalf("P21.6: Unpack(%q) did %d steps, the chapter's operations %d:%s", under, d.Steps(), twin.Steps(), shown(list))
	}
	if !reflect.DeepEqual(walked(t, f), walked(t, hand)) {
		t.Fatalf("P21.6: Unpack(%q) made another tree", under)
	}
	return e
}

// P21.6: the place of a member, below paths of all sorts.
func TestP21_6Places(t *testing.T) {
	d, _ := furnished(t)
	for _, under := range []string{"/", "//", "/d/e", "/d/e/", "/d/e///", "/d/e/.", "/d/e/./", "/d/e/..", "/d/e/../..", "/d//e", "/..", "/../", "/./.", strings.Repeat("/", 190)} {
		list := []api.Member{file("A", 5, piece(0, "bytes")), dir("x"), link("x/l", "A"), file("x/y", 513), link("z", "x/y")}
		if e := beside(t, d.View(), under, list); e != api.OK {
			t.Fatalf("P21.6: Unpack(%q): %v", under, e)
		}
		f := mounts(t, load(t, d.View()))
		unpacked(t, f, under, bytesOf(list))
		for _, m := range list {
			if _, err := f.Stat(under + "/" + m.Path); err != nil && !errors.Is(err, api.ErrPathLong) {
				t.Fatal(err)
			}
		}
	}
}

// P21.6: the refusal of each member: its number, its place, its reason; what was made stays.
func TestP21_6Members(t *testing.T) {
	d, _ := furnished(t)
	for _, c := range []struct {
		under string
		list  []api.Member
		n     int
		path  string
		e     api.Errno
	}{
		{"/", []api.Member{dir("a"), dir("d"), file("z", 0)}, 1, "/d", api.ErrExist},
		{"/", []api.Member{dir("a"), file("d", 0)}, 1, "/d", api.ErrExist},
		{"/", []api.Member{dir("a"), dir("f"), file("f/g", 0)}, 1, "/f", api.ErrExist},
		{"/d/", []api.Member{file("a", 1, piece(0, "x")), link("b", "a"), link("e", "a"), dir("h")}, 2, "/d/e", api.ErrExist},
		{"/d/.", []api.Member{file("a", 1, piece(0, "x")), link("g", "a")}, 1, "/d/./g", api.ErrExist},
		{"/d/e/..", []api.Member{file("g", 1, piece(0, "x"))}, 0, "/d/e/../g", api.ErrExist},
	} {
		if e := beside(t, d.View(), c.under, c.list); e != c.e {
			t.Fatalf("P21.6: Unpack(%q) is refused for %v", c.under, e)
		}
		f := mounts(t, load(t, d.View()))
		unpackTells(t, f, c.under, bytesOf(c.list), c.n, c.path, c.e)
	}
}

// P21.6: a place of 200 bytes is there, a longer one is refused.
func TestP21_6LongPlaces(t *testing.T) {
	d, f := furnished(t)
	under := ""
	for range 6 {
		under += "/" + strings.Repeat("n", 28)
		did(t, f.Mkdir(under))
	}
	under += "/" + strings.Repeat("n", 22)
	did(t, f.Mkdir(under)) // 197 bytes
	for _, slashes := range []string{"", "/", "///"} {
		for n, list := range [][]api.Member{
			{file("ab", 1, piece(0, "x")), link("ac", "ab")}, {dir("ab")}, {file("aa", 0), file("abc", 0)}, {file("aa", 0), dir("abc")}, {file("aa", 0), link("abc", "aa")}, {dir("a"), file("a/b", 0)},
		} {
			want := api.OK
			if n > 1 {
				want = api.ErrPathLong
			}
			if e := beside(t, d.View(), under+slashes, list); e != want {
				t.Fatalf("P21.6: list %d below %d bytes: %v", n, len(under), e)
			}
		}
	}
}

// P21.6: drawn lists, below drawn paths, on devices with room and without.
func TestP21_6Drawn(t *testing.T) {
	r := chance()
	seen := map[api.Errno]int{}
	for range 500 {
		s := pick(r, small, tight, tight, middling, large)
		d, f := fresh(t, s)
		did(t, f.Mkdir("/a"), f.Mkdir("/a/b"))
		for range r.Intn(4) {
			_ = f.Create("/" + pick(r, "", "a/", "a/b/") + drawnName(r))
		}
		list := drawnGood(r, 16, 4)
		seen[beside(t, d.View(), pick(r, "/", "/a", "/a/", "/a/b", "//", "/a/./b/", "/a/.."), list)]++
	}
	for _, e := range []api.Errno{api.OK, api.ErrExist, api.ErrNoSpace, api.ErrNoInodes} {
		if seen[e] < 10 {
			t.Errorf("%v was answered %d times: %v", e, seen[e], seen)
		}
	}
}

// P21.6: a file for each way of ending: with its last piece, behind it, without any.
func TestP21_6Sizes(t *testing.T) {
	d, _ := fresh(t, middling)
	image := d.View()
	for _, m := range []api.Member{
		file("a", 0), file("a", 1), file("a", 512), file("a", 600), file("a", 262144), file("a", 1, piece(0, "x")), file("a", 512, piece(0, page("x"))), file("a", 513, piece(0, page("x"))), file("a", 600, piece(512, strings.Repeat("x", 88))),
		file("a", 1024, piece(0, page("x"))), file("a", 1024, piece(512, page("x"))), file("a", 262144, piece(261632, page("x"))), file("a", 262143, piece(0, page("x")), piece(261632, strings.Repeat("x", 511))),
	} {
		d := load(t, image)
		f := mounts(t, d)
		unpacked(t, f, "/", bytesOf([]api.Member{m}))
		if s, err := f.Stat("/a"); err != nil || s.Size != m.Size || s.Pages != len(m.Pieces) || s.Links != 1 {
			t.Fatalf("P21.6: Stat = %+v, %v of%s", s, err, shown([]api.Member{m}))
		}
		if e := beside(t, image, "/", []api.Member{m}); e != api.OK {
			t.Fatal(e)
		}
	}
}

// session: drawn operations on a file system, of which many are refused.
func session(r *rand.Rand, f *fs.FS, many int) {
	path := func() string {
		return pick(r, "", "", "/a", "/a", "/b", "/a/b", "/a./a") + "/" + drawnName(r)
	}
	for range many {
		o := op{name: pick(r, "mkdir", "mkdir", "create", "create", "write", "write", "write", "truncate", "link", "link", "unlink", "rmdir", "rename", "rename"), a: path(), b: path(), n: r.Intn(3000)}
		if o.name == "write" {
			o.b = drawnBytes(r, 1+r.Intn(900))
		}
		_ = o.on(f)
	}
}

// members: the list of a file system's tree, found page by page, a second time.
func members(t *testing.T, f *fs.FS) []api.Member {
	t.Helper()
	first := map[int]string{}
	var list []api.Member
	for _, i := range walked(t, f) {
		path := strings.Trim(i.Path, "/")
		switch {
		case path == "":
		case i.Stat.Kind == api.KindDir:
			list = append(list, dir(path))
		case first[i.Stat.Ino] != "":
			list = append(list, link(path, first[i.Stat.Ino]))
		default:
			first[i.Stat.Ino] = path
			m := file(path, i.Stat.Size)
			for off := 0; off < m.Size; off += 512 {
				s, err := f.Read(i.Path, off, 512)
				if err != nil {
					t.Fatal(err)
				}
				if strings.ContainsFunc(s, func(c rune) bool { return c != 0 }) {
					m.Pieces = append(m.Pieces, piece(off, s))
				}
			}
			list = append(list, m)
		}
	}
	return list
}

// P21.7, T8: a tree that is packed, and unpacked into a fresh file system, is the same tree, and packs to the same bytes; of another shape too.
func TestP21_7ThereAndBack(t *testing.T) {
	r := chance()
	most := 0
	for round := range 120 {
		d, f := fresh(t, pick(r, small, middling, middling))
		session(r, f, 20+round)
		list := members(t, f)
		isPacked(t, "a drawn session", d, f, list)
		b, want := packed(t, f), looks(t, f)
		most = max(most, len(list))
		for _, s := range []api.Super{large, {Pages: 400, Inodes: 64, Cores: 1 + r.Intn(8)}} {
			_, g := fresh(t, s)
			unpacked(t, g, "/", b)
			if got := looks(t, g); !reflect.DeepEqual(got, want) {
				t.Fatalf("P21.7: there is\n%q\nwant\n%q", got, want)
			}
			if !bytes.Equal(packed(t, g), b) {
				t.Fatal("P21.7: it packs to other bytes")
			}
		}
	}
	if most < 12 {
		t.Errorf("no tree had more than %d members", most)
	}
}

// P21.7: from one file system to the next, again and again, below a directory and up again.
func TestP21_7Again(t *testing.T) {
	_, f := fresh(t, middling)
	session(chance(), f, 60)
	b := packed(t, f)
	for range 4 {
		_, g := fresh(t, large)
		did(t, g.Mkdir("/up"))
		unpacked(t, g, "/up", b)
		list, e := archive.Open(packed(t, g))
		if e != api.OK || list[0].Path != "up" {
			t.Fatal(e, shown(list))
		}
		for k := range list {
			list[k].Path = strings.TrimPrefix(list[k].Path, "up/")
			list[k].Link = strings.TrimPrefix(list[k].Link, "up/")
		}
		if b2 := made(t, list[1:]); !bytes.Equal(b2, b) {
			t.Fatal("P21.7: below a directory there are other members")
		}
		_, f = fresh(t, large)
		unpacked(t, f, "/", b)
		b = packed(t, f)
	}
}
