package inode_test

import (
	"math"
	"math/rand"
	"slices"
	"strings"
	"testing"

	"furrow/api"
	"furrow/inode"
)

// wild: numbers far off; some of them are near ones when their higher bits are cut off, or when a sum wraps round.
var wild = []int{-1, -2, -5, -16, -512, -1023, -1 << 31, 1<<31 - 1, 1 << 31, 1<<32 + 1, 1<<32 + 5, 1<<32 + 10, -1<<32 + 2, 1 << 62, math.MaxInt, math.MaxInt - 1, math.MaxInt - 511, math.MinInt, math.MinInt + 1, math.MinInt + 512}

// good: names, none twice; many begin alike.
var good = []string{
	"a", "b", "ab", "aa", "aaa", "A", "B", "a\xff", "a\x01", "\xff", "\x01", " ", "a ", "0", "10", "2", "...", ".a", "..a", "a-b", "\u00e9", "\xc3",
	strings.Repeat("x", 28), strings.Repeat("x", 27), strings.Repeat("x", 27) + "y", strings.Repeat("\xff", 28), strings.Repeat(".", 28),
}

// bad: texts that are no names.
var bad = []string{"", ".", "..", "/", "a/", "/a", "a/b", "\x00", "a\x00", "\x00a", strings.Repeat("x", 29), strings.Repeat("x", 284), strings.Repeat("x", 5000)}

func write(off, count, page, size int) api.Entry {
	return api.Entry{Kind: api.EntWrite, Seq: 1, Off: off, Count: count, Page: page, Size: size}
}

func size(n int) api.Entry { return api.Entry{Kind: api.EntSize, Seq: 1, Size: n} }

func add(name string, ino int) api.Entry {
	return api.Entry{Kind: api.EntAdd, Seq: 1, Name: name, Ino: ino}
}

func drop(name string) api.Entry { return api.Entry{Kind: api.EntDrop, Seq: 1, Name: name} }

// runs: of threes of Off, Page and Count.
func runs(n ...int) []api.Run {
	var l []api.Run
	for i := 0; i < len(n); i += 3 {
		l = append(l, api.Run{Off: n[i], Page: n[i+1], Count: n[i+2]})
	}
	return l
}

func file(size int, n ...int) api.Node {
	return api.Node{Kind: api.KindFile, Size: size, Map: runs(n...)}
}

func dir(dents ...api.Dent) api.Node { return api.Node{Kind: api.KindDir, Names: dents} }

func dent(name string, ino int) api.Dent { return api.Dent{Name: name, Ino: ino} }

// model: what a log means by the chapter's words: at each file page the device page that stands there (0: a hole), the names as they came.
type model struct {
	kind, size int
	pages      [512]int
	names      []api.Dent
	entries    int
}

func isName(s string) bool {
	if len(s) < 1 || len(s) > 28 || s == "." || s == ".." {
		return false
	}
	for i := range len(s) {
		if s[i] == 0 || s[i] == 47 {
			return false
		}
	}
	return true
}

func near(n int) bool { return n > -100000 && n < 100000 }

// isEntry: whether it is a good entry of chapter 3, whatever its Seq is.
func isEntry(e api.Entry) bool {
	page := func(p int) bool { return p >= 5 && p <= 1023 }
	size := e.Size >= 0 && e.Size <= 262144
	switch e.Kind {
	case 1:
		return near(e.Off) && near(e.Count) && near(e.Page) && e.Count >= 1 && e.Count <= 16 && e.Off >= 0 && e.Off+e.Count <= 512 &&
			page(e.Page) && page(e.Page+e.Count-1) && size && e.Ino == 0 && e.Name == ""
	case 2:
		return size && e.Off == 0 && e.Count == 0 && e.Page == 0 && e.Ino == 0 && e.Name == ""
	case 3:
		return isName(e.Name) && e.Ino >= 2 && e.Ino <= 256 && e.Off == 0 && e.Count == 0 && e.Page == 0 && e.Size == 0
	case 4:
		return isName(e.Name) && e.Ino == 0 && e.Off == 0 && e.Count == 0 && e.Page == 0 && e.Size == 0
	}
	return false
}

// end: how many file pages begin ahead of the size.
func end(size int) int {
	n := 0
	for n*512 < size {
		n++
	}
	return n
}

func (m *model) find(name string) int {
	return slices.IndexFunc(m.names, func(d api.Dent) bool { return d.Name == name })
}

func (m *model) apply(e api.Entry) api.Errno {
	if !isEntry(e) {
		return api.ErrEntry
	}
	at := m.find(e.Name)
	if m.kind == 1 && e.Kind > 2 || m.kind == 2 && e.Kind < 3 || e.Kind == 3 && at >= 0 || e.Kind == 4 && at < 0 {
		return api.ErrMeaning
	}
	m.entries++
	switch e.Kind {
	case 3:
		m.names = append(slices.Clip(m.names), dent(e.Name, e.Ino))
		return api.OK
	case 4:
		m.names = slices.Delete(slices.Clone(m.names), at, at+1)
		return api.OK
	case 1:
		for i := range e.Count {
			m.pages[e.Off+i] = e.Page + i
		}
	}
	m.size = e.Size
	for p := range m.pages {
		if p*512 >= e.Size {
			m.pages[p] = 0
		}
	}
	return api.OK
}

// longest: the runs of a table of pages: a run begins where the page ahead isn't the one before.
func longest(pages [512]int) []api.Run {
	var l []api.Run
	for off, page := range pages {
		switch {
		case page == 0:
		case off > 0 && pages[off-1] != 0 && pages[off-1]+1 == page:
			l[len(l)-1].Count++
		default:
			l = append(l, api.Run{Off: off, Page: page, Count: 1})
		}
	}
	return l
}

func (m *model) node() api.Node {
	names := slices.Clone(m.names)
	slices.SortFunc(names, func(a, b api.Dent) int { return slices.Compare([]byte(a.Name), []byte(b.Name)) })
	return api.Node{Kind: m.kind, Size: m.size, Map: longest(m.pages), Names: names, Entries: m.entries}
}

// canon: the canonical entries, page by page: a Write ends where its run does, or has 16 pages.
func (m *model) canon() []api.Entry {
	n := m.node()
	var l []api.Entry
	for _, r := range n.Map {
		for i := range r.Count {
			if i%16 == 0 {
				l = append(l, write(r.Off+i, 0, r.Page+i, n.Size))
			}
			l[len(l)-1].Count++
		}
	}
	if len(n.Map) == 0 && n.Size > 0 {
		l = append(l, size(n.Size))
	}
	for _, d := range n.Names {
		l = append(l, add(d.Name, d.Ino))
	}
	for i := range l {
		l[i].Seq = uint64(i + 1)
	}
	return l
}

// isGood: whether a node is good, and the model that it is the node of.
func isGood(n api.Node) (*model, bool) {
	m := &model{kind: n.Kind, size: n.Size, entries: n.Entries}
	switch n.Kind {
	case 1:
		if n.Size < 0 || n.Size > 262144 || len(n.Names) > 0 {
			return nil, false
		}
		at := 0
		for _, r := range n.Map {
			if !near(r.Off) || !near(r.Page) || !near(r.Count) || r.Off < at || r.Count < 1 || r.Off+r.Count > end(n.Size) || r.Page < 5 || r.Page+r.Count-1 > 1023 {
				return nil, false
			}
			for i := range r.Count {
				m.pages[r.Off+i] = r.Page + i
			}
			at = r.Off + r.Count
		}
		return m, slices.Equal(longest(m.pages), n.Map)
	case 2:
		if n.Size != 0 || len(n.Map) > 0 {
			return nil, false
		}
		for i, d := range n.Names {
			if !isName(d.Name) || d.Ino < 2 || d.Ino > 256 || i > 0 && slices.Compare([]byte(n.Names[i-1].Name), []byte(d.Name)) >= 0 {
				return nil, false
			}
		}
		m.names = n.Names
		return m, true
	}
	return nil, false
}

// same: two nodes; an empty list and nil are one.
func same(a, b api.Node) bool {
	return a.Ino == b.Ino && a.Kind == b.Kind && a.Links == b.Links && a.Size == b.Size && a.Head == b.Head && a.Tail == b.Tail && a.Entries == b.Entries &&
		slices.Equal(a.Map, b.Map) && slices.Equal(a.Names, b.Names) && slices.Equal(a.Log, b.Log)
}

// copied: a node with lists of its own.
func copied(n api.Node) api.Node {
	n.Map, n.Names, n.Log = slices.Clone(n.Map), slices.Clone(n.Names), slices.Clone(n.Log)
	return n
}

// applied: Apply answers what the model does, and behind an error nothing else; what is handed in stays as it was.
func applied(t *testing.T, what string, n api.Node, e api.Entry) (api.Node, api.Errno) {
	t.Helper()
	want, wantE := api.Node{}, api.ErrEntry
	if isEntry(e) {
		wantE = api.ErrMeaning
		if m, ok := isGood(n); ok {
			wantE = m.apply(e)
			want = m.node()
			want.Ino, want.Links, want.Head, want.Tail, want.Log = n.Ino, n.Links, n.Head, n.Tail, n.Log
		}
	}
	if wantE != api.OK {
		want = api.Node{}
	}
	was := copied(n)
	got, gotE := inode.Apply(n, e)
	if gotE != wantE || !same(got, want) {
		t.Fatalf("%s: Apply(%+v, %+v) = %+v, %d, want %+v, %d", what, n, e, got, gotE, want, wantE)
	}
	if !same(n, was) {
		t.Fatalf("%s: Apply changed %+v to %+v", what, was, n)
	}
	return got, gotE
}

// told: Canon and Pages answer what the model does.
func told(t *testing.T, what string, n api.Node) {
	t.Helper()
	var want []api.Entry
	var pages []int
	wantE := api.ErrMeaning
	if m, ok := isGood(n); ok {
		want, wantE = m.canon(), api.OK
		for _, p := range m.pages {
			if p != 0 {
				pages = append(pages, p)
			}
		}
	}
	was := copied(n)
	if got, e := inode.Canon(n); e != wantE || !slices.Equal(got, want) {
		t.Fatalf("%s: Canon(%+v) = %+v, %d, want %+v, %d", what, n, got, e, want, wantE)
	}
	if got := inode.Pages(n); !slices.Equal(got, pages) {
		t.Fatalf("%s: Pages(%+v) = %v, want %v", what, n, got, pages)
	}
	if !same(n, was) {
		t.Fatalf("%s: what was handed in has changed: %+v to %+v", what, was, n)
	}
}

// replayed: Replay answers what the model does; the node is told as the model tells it.
func replayed(t *testing.T, what string, kind int, list []api.Entry) (api.Node, api.Errno) {
	t.Helper()
	m, wantE := &model{kind: kind}, api.OK
	if kind != 1 && kind != 2 {
		wantE = api.ErrMeaning
	}
	for i := 0; i < len(list) && wantE == api.OK; i++ {
		wantE = m.apply(list[i])
	}
	want := api.Node{}
	if wantE == api.OK {
		want = m.node()
	}
	got, e := inode.Replay(kind, list)
	if e != wantE || !same(got, want) {
		t.Fatalf("%s: Replay(%d, %+v) = %+v, %d, want %+v, %d", what, kind, list, got, e, want, wantE)
	}
	told(t, what, got)
	return got, e
}

// anyOf: one of them.
func anyOf[T any](r *rand.Rand, l ...T) T { return l[r.Intn(len(l))] }

// someWrite: a good Write, often at the file's or the device's edge, often beside the pages of another, with a Size near its own pages or anywhere.
func someWrite(r *rand.Rand) api.Entry {
	count := anyOf(r, 1, 1, 2, 3, 5, 15, 16)
	off := anyOf(r, 0, 0, 1, 2, r.Intn(24), r.Intn(500), 512-count, 480)
	off = min(off, 512-count)
	page := anyOf(r, 5, 6+off, 6+off, 40+off, 40+off, 5+r.Intn(1000), 1024-count)
	page = min(page, 1024-count)
	return write(off, count, page, someSize(r, off+count))
}

// someSize: a good Size, often about the beginning of the page at.
func someSize(r *rand.Rand, at int) int {
	n := anyOf(r, at*512, at*512, at*512-1, at*512+1, at*512-511, at*512-512, at*512-513, 262144, 262144, 262143, 20*512, 513, 512, 0, r.Intn(262145))
	return max(0, min(n, 262144))
}

// someFile: a log of a file, of n entries.
func someFile(r *rand.Rand, n int) []api.Entry {
	var l []api.Entry
	for range n {
		if r.Intn(4) == 0 {
			l = append(l, size(someSize(r, r.Intn(40))))
			continue
		}
		l = append(l, someWrite(r))
	}
	return l
}

// someDir: a log of a directory, of n entries, all of which it may have.
func someDir(r *rand.Rand, n int) []api.Entry {
	m := &model{kind: 2}
	var l []api.Entry
	for len(l) < n {
		e := anyOf(r, add(anyOf(r, good...), 2+r.Intn(255)), drop(anyOf(r, good...)))
		if m.apply(e) == api.OK {
			l = append(l, e)
		}
	}
	return l
}

// nodes: good nodes: by hand at the edges, and of logs.
func nodes() []api.Node {
	l := []api.Node{
		file(0), file(1), file(512), file(262144), file(1, 0, 5, 1), file(512, 0, 1023, 1), file(513, 1, 7, 1), file(262144, 0, 5, 512), file(262144, 0, 512, 512), file(261633, 511, 9, 1),
		file(1536, 0, 10, 1, 1, 99, 1, 2, 12, 1), file(1024, 0, 9, 1, 1, 9, 1), file(1024, 0, 9, 1, 1, 8, 1), file(2000, 0, 9, 1, 2, 10, 1), file(2000, 0, 9, 1, 2, 11, 1), file(262144, 3, 5, 16, 20, 21, 17, 37, 5, 33, 100, 600, 412),
		dir(), dir(dent("a", 2)), dir(dent("B", 256), dent("a", 2), dent("aa", 2), dent("a\xff", 3)),
	}
	for seed := range int64(30) {
		r := rand.New(rand.NewSource(seed))
		for i, log := range [][]api.Entry{someFile(r, 1+r.Intn(20)), someDir(r, 1+r.Intn(20))} {
			m := &model{kind: 1 + i}
			for _, e := range log {
				m.apply(e)
			}
			l = append(l, m.node())
		}
	}
	var full []api.Run
	for off := range 512 {
		full = append(full, api.Run{Off: off, Page: 1000 - off, Count: 1})
	}
	return append(l, api.Node{Kind: 1, Size: 262144, Map: full})
}

// badNodes: nodes that aren't good, most of them for one reason alone.
func badNodes() []api.Node {
	l := []api.Node{
		{}, {Kind: 3}, {Kind: 257}, {Kind: 1<<32 + 1},
		file(-1), file(262145), file(512, 0, 10, 2), file(0, 0, 10, 1), file(512, 1, 10, 1), file(262144, 512, 10, 1), file(262144, 511, 10, 2), file(261632, 511, 10, 1),
		file(1024, 0, 10, 1, 1, 11, 1), file(2048, 0, 10, 2, 2, 12, 2), file(262144, 0, 500, 17, 17, 517, 1), file(262144, 0, 9, 1, 1, 20, 1, 2, 21, 1), file(1024, 1, 10, 1, 0, 20, 1), file(1024, 0, 10, 2, 1, 20, 1), file(1024, 0, 10, 1, 0, 20, 1), file(1024, 0, 10, 1, 0, 10, 1), file(2048, 2, 10, 1, 2, 10, 1),
		file(512, 0, 4, 1), file(512, 0, 0, 1), file(512, 0, -1, 1), file(512, 0, 1024, 1), file(1024, 0, 1023, 2), file(262144, 0, 1000, 25), file(1024, 0, 4, 2), file(512, 0, 10, 0), file(512, 0, 10, -1), file(0, 0, 0, 0), file(512, 0, 0, 0), file(512, -1, 10, 1), file(512, -1, 10, 2), file(1024, -2, 10, 3),
		{Kind: 1, Names: []api.Dent{dent("a", 2)}}, {Kind: 2, Size: 1}, {Kind: 2, Size: -1}, {Kind: 2, Size: 512}, {Kind: 2, Map: runs(0, 10, 1)}, {Kind: 2, Map: runs(0, 0, 0)}, {Kind: 2, Size: 512, Map: runs(0, 10, 1)}, {Kind: 1, Size: 512, Map: runs(0, 10, 1), Names: []api.Dent{dent("a", 2)}},
		dir(dent("b", 2), dent("a", 2)), dir(dent("a", 2), dent("a", 3)), dir(dent("aa", 2), dent("a", 2)), dir(dent("a\xff", 2), dent("b", 2), dent("aa", 2)), dir(dent("a", 1)), dir(dent("a", 0)), dir(dent("a", 257)), dir(dent("a", 2), dent("b", 1)),
		{Kind: 0, Names: []api.Dent{dent("a", 2)}}, {Kind: 3, Size: 512, Map: runs(0, 10, 1)},
	}
	for _, s := range bad {
		l = append(l, dir(dent(s, 2)), dir(dent("!", 2), dent(s, 2)))
	}
	for _, n := range wild {
		l = append(l, api.Node{Kind: n}, file(n), file(n, 0, 10, 1), api.Node{Kind: 2, Size: n}, dir(dent("a", n)),
			file(262144, n, 10, 1), file(262144, 0, n, 1), file(262144, 0, 10, n), file(262144, n, 10, n), file(262144, 0, n, n), file(262144, n, n, n), file(262144, 0, 10, 1, n, 20, 1), file(262144, 0, 10, 1, 5, 10, n), file(262144, n, 10, -n), file(262144, 1, n, 512-n), file(262144, n, 10, 512-n))
	}
	return l
}
