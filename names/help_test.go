package names_test

import (
	"math"
	"math/rand"
	"slices"
	"strings"
	"testing"

	"furrow/api"
	"furrow/names"
)

// wild: numbers that no inode has; some of them are when their higher bits are cut off.
var wild = []int{0, -1, -2, -7, -255, -256, -257, 257, 258, 511, 512, 1<<16 + 1, 1<<31 - 1, 1 << 31, 1<<32 + 1, -1<<32 + 1, 1<<32 + 256, 1 << 62, math.MaxInt, math.MaxInt - 255, math.MinInt, math.MinInt + 1, math.MinInt + 256}

// good: names, none twice; many begin alike, or differ by a zero's, a slash's or a dot's neighbour.
var good = []string{
	"a", "b", "ab", "ba", "aa", "aaa", "A", "B", "a\xff", "a\x01", "a\x02", "\xff", "\xff\xff", "\x01", " ", "  ", "a ", " a", "\n", "0", "1", "10", "2",
	"...", "....", ".a", "a.", "..a", "a..", ". ", ".\x01", ".-", "a-b", "a\\b", "a0b", "\u00e9", "e\u0301", "\u65e5\u672c", "\xc3", "\x80", "\x7f",
	strings.Repeat("x", 28), strings.Repeat("x", 27), strings.Repeat("x", 27) + "y", strings.Repeat("y", 28), strings.Repeat("\xff", 28), strings.Repeat("\x01", 28), strings.Repeat(".", 28), "y" + strings.Repeat("x", 27),
}

// bad: texts that are no names; many would be one of the good names if they were cut, or if their zeros were.
var bad = []string{
	"", ".", "..", "/", "//", "a/", "/a", "a/b", "\x00", "a\x00", "\x00a", "a\x00b", "ab\x00", "\x00\x00", "..\x00", "../a", "./a", "a/..",
	strings.Repeat("x", 29), strings.Repeat("x", 28) + "\x00", strings.Repeat("x", 27) + "\x00", strings.Repeat("x", 27) + "/", strings.Repeat("x", 28+256), strings.Repeat("x", 5000), strings.Repeat("x", 257), "a" + strings.Repeat("\x00", 27), "a" + strings.Repeat("\x00", 28), "a" + strings.Repeat("\x00", 256),
}

// row: a name of the model.
type row struct {
	dir  int
	name string
	ino  int
}

// model: an index by the chapter's words: its names in the order in which they came.
type model struct {
	rows []row
}

func inodes() []int {
	var l []int
	for n := 1; n <= 256; n++ {
		l = append(l, n)
	}
	return l
}

func isNumber(n int) bool { return n >= 1 && n <= 256 }

func isName(s string) bool {
	if len(s) < 1 || len(s) > 28 || s == "." || s == ".." {
		return false
	}
	for i := range len(s) {
		if s[i] == 0 || s[i] == 47 {
			return false
		}
	}
	return true
}

func (m *model) find(dir int, name string) int {
	return slices.IndexFunc(m.rows, func(r row) bool { return r.dir == dir && r.name == name })
}

func (m *model) put(dir int, name string, ino int) api.Errno {
	switch {
	case !isNumber(dir) || !isNumber(ino):
		return api.ErrInode
	case !isName(name):
		return api.ErrName
	case m.find(dir, name) >= 0:
		return api.ErrHave
	}
	m.rows = append(m.rows, row{dir, name, ino})
	return api.OK
}

func (m *model) drop(dir int, name string) (int, api.Errno) {
	at := m.find(dir, name)
	if at < 0 {
		return 0, api.ErrNone
	}
	ino := m.rows[at].ino
	m.rows = slices.Delete(slices.Clone(m.rows), at, at+1)
	return ino, api.OK
}

func (m *model) clear(dir int) int {
	had := len(m.rows)
	m.rows = slices.DeleteFunc(slices.Clone(m.rows), func(r row) bool { return r.dir == dir })
	return had - len(m.rows)
}

func (m *model) copy() *model { return &model{slices.Clone(m.rows)} }

// before: whether a name comes before another.
func before(a, b string) bool {
	for i := range min(len(a), len(b)) {
		if a[i] != b[i] {
			return a[i] < b[i]
		}
	}
	return len(a) < len(b)
}

// list: the directory's names, each brought in ahead of the first that it comes before.
func (m *model) list(dir int) []api.Dent {
	var l []api.Dent
	for _, r := range m.rows {
		if r.dir != dir {
			continue
		}
		at := 0
		for at < len(l) && before(l[at].Name, r.name) {
			at++
		}
		l = slices.Insert(l, at, api.Dent{Name: r.name, Ino: r.ino})
	}
	return l
}

func (m *model) links(ino int) int {
	n := 0
	for _, r := range m.rows {
		if r.ino == ino {
			n++
		}
	}
	return n
}

// gone: what All hands on, stopped behind most of them (-1: never).
func gone(x *names.Index, dir, most int) []api.Dent {
	var l []api.Dent
	for name, ino := range x.All(dir) {
		l = append(l, api.Dent{Name: name, Ino: ino})
		if len(l) == most {
			break
		}
	}
	return l
}

func same(t *testing.T, what string, got, want []api.Dent) {
	t.Helper()
	if !slices.Equal(got, want) {
		t.Fatalf("%s: %v, want %v", what, got, want)
	}
}

// about: the index tells of these numbers what the model has, by every call that tells something.
func (m *model) about(t *testing.T, what string, x *names.Index, numbers ...int) {
	t.Helper()
	for _, n := range numbers {
		l := m.list(n)
		same(t, what+": List", x.List(n), l)
		same(t, what+": All", gone(x, n, -1), l)
		if x.Len(n) != len(l) {
			t.Fatalf("%s: Len(%d) = %d, want %d", what, n, x.Len(n), len(l))
		}
		if x.Links(n) != m.links(n) {
			t.Fatalf("%s: Links(%d) = %d, want %d", what, n, x.Links(n), m.links(n))
		}
		for _, d := range l {
			if got := x.Get(n, d.Name); got != d.Ino {
				t.Fatalf("%s: Get(%d, %q) = %d, want %d", what, n, d.Name, got, d.Ino)
			}
		}
	}
}

// agree: the index tells what the model has, of all inode numbers and some others.
func (m *model) agree(t *testing.T, what string, x *names.Index) {
	t.Helper()
	m.about(t, what, x, inodes()...)
	m.about(t, what, x, wild...)
	lens, links := 0, 0
	for _, n := range inodes() {
		lens += x.Len(n)
		links += x.Links(n)
	}
	if lens != links || lens != len(m.rows) {
		t.Fatalf("%s: the sum of Len is %d, that of Links %d, want %d", what, lens, links, len(m.rows))
	}
}

// puts, drops, clears: the index answers what the model does.
func (m *model) puts(t *testing.T, x *names.Index, dir int, name string, ino int) {
	t.Helper()
	want := m.put(dir, name, ino)
	if e := x.Put(dir, name, ino); e != want {
		t.Fatalf("Put(%d, %q, %d) = %d, want %d", dir, name, ino, e, want)
	}
}

func (m *model) drops(t *testing.T, x *names.Index, dir int, name string) {
	t.Helper()
	want, e := m.drop(dir, name)
	if ino, f := x.Drop(dir, name); ino != want || f != e {
		t.Fatalf("Drop(%d, %q) = %d, %d, want %d, %d", dir, name, ino, f, want, e)
	}
}

func (m *model) clears(t *testing.T, x *names.Index, dir int) {
	t.Helper()
	want := m.clear(dir)
	if n := x.Clear(dir); n != want {
		t.Fatalf("Clear(%d) = %d, want %d", dir, n, want)
	}
}

// filled: an index and its model with all good names in four directories, in an order of the seed's, for a few inodes, the directories among them.
func filled(t *testing.T, seed int64) (*names.Index, *model) {
	t.Helper()
	x, m := names.New(), &model{}
	r := rand.New(rand.NewSource(seed))
	for _, dir := range []int{256, 1, 7, 2} {
		for _, i := range r.Perm(len(good)) {
			m.puts(t, x, dir, good[i], []int{1, 2, 3, 7, 255, 256}[r.Intn(6)])
		}
	}
	return x, m
}
