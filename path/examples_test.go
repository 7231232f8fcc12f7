package path_test

import (
	"strings"
	"testing"

	"furrow/api"
	"furrow/path"
)

func edges() []api.Edge {
	return []api.Edge{{Dir: 1, Name: "a", Ino: 2, Sub: true}, {Dir: 2, Name: "b", Ino: 3, Sub: true}, {Dir: 3, Name: "f", Ino: 4}, {Dir: 1, Name: "f", Ino: 4}, {Dir: 1, Name: "z", Ino: 0, Sub: true}}
}

func TestExample1(t *testing.T) {
	for _, c := range []struct {
		text string
		p    api.Path
		e    api.Errno
	}{
		{"/a//b/", pa(true, "a", "b"), api.OK},
		{"/", pa(false), api.OK},
		{"///", pa(false), api.OK},
		{"/./..", pa(false, ".", ".."), api.OK},
		{"", api.Path{}, api.ErrPathForm},
		{"a/b", api.Path{}, api.ErrPathForm},
		{"/" + strings.Repeat("q", 29), api.Path{}, api.ErrNameLong},
		{strings.Repeat("/", 201), api.Path{}, api.ErrPathLong},
		{strings.Repeat("/", 200), pa(false), api.OK},
		{"a/" + strings.Repeat("q", 29), api.Path{}, api.ErrPathForm},
	} {
		if p, e := path.Parse(c.text); e != c.e || !same(p, c.p) {
			t.Errorf("Parse(%q) = %+v, %d, want %+v, %d", c.text, p, e, c.p, c.e)
		}
	}
}

func TestExample2(t *testing.T) {
	for _, c := range []struct {
		p    api.Path
		text string
	}{{pa(true, "a", "b"), "/a/b/"}, {pa(false), "/"}, {pa(true), ""}, {pa(false, "a/b"), ""}, {pa(false, ".."), "/.."}} {
		if s := path.Text(c.p); s != c.text {
			t.Errorf("Text(%+v) = %q, want %q", c.p, s, c.text)
		}
	}
}

func TestExample3(t *testing.T) {
	for _, c := range []struct{ p, want api.Path }{
		{pa(false, "..", "a", ".", "..", "b"), pa(false, "b")},
		{pa(false, "a", "b", ".."), pa(true, "a")},
		{pa(false, "a", ".."), pa(false)},
		{pa(true, "a", "..", "b"), pa(true, "b")},
	} {
		if p := path.Clean(c.p); !same(p, c.want) {
			t.Errorf("Clean(%+v) = %+v, want %+v", c.p, p, c.want)
		}
	}
}

func TestExample4(t *testing.T) {
	tab := path.NewTable(edges())
	for _, c := range []struct {
		text string
		want answer
	}{
		{"/", answer{1, true, api.OK}},
		{"/a/b", answer{3, true, api.OK}},
		{"/a/b/f", answer{4, false, api.OK}},
		{"/a/b/f/", answer{0, false, api.ErrNotDir}},
		{"/a/../f", answer{4, false, api.OK}},
		{"/../../a", answer{2, true, api.OK}},
		{"/f/..", answer{0, false, api.ErrNotDir}},
		{"/f/.", answer{0, false, api.ErrNotDir}},
		{"/x/..", answer{0, false, api.ErrNoEnt}},
		{"/x/y", answer{0, false, api.ErrNoEnt}},
		{"/f/y", answer{0, false, api.ErrNotDir}},
		{"/z", answer{0, false, api.ErrNoEnt}},
		{"/a/b/..", answer{2, true, api.OK}},
		{"/a/./", answer{2, true, api.OK}},
	} {
		if got := resolve(tab, read(t, c.text)); got != c.want {
			t.Errorf("Resolve(%q) = %+v, want %+v", c.text, got, c.want)
		}
	}
}

func TestExample5(t *testing.T) {
	tab := path.NewTable(edges())
	for _, c := range []struct {
		text string
		dir  int
		last string
		e    api.Errno
	}{
		{"/", 0, "", api.ErrPathEnd},
		{"/a/..", 0, "", api.ErrPathEnd},
		{"/x/.", 0, "", api.ErrPathEnd},
		{"/a/new", 2, "new", api.OK},
		{"/a/new/", 2, "new", api.OK},
		{"/f/new", 0, "", api.ErrNotDir},
		{"/x/new", 0, "", api.ErrNoEnt},
		{"/q", 1, "q", api.OK},
	} {
		if dir, last, e := path.Parent(tab, read(t, c.text)); dir != c.dir || last != c.last || e != c.e {
			t.Errorf("Parent(%q) = %d, %q, %d, want %d, %q, %d", c.text, dir, last, e, c.dir, c.last, c.e)
		}
	}
}

func TestExample6(t *testing.T) {
	look := func(l []api.Edge, name string, ino int, sub bool) {
		t.Helper()
		if n, s := path.NewTable(l).Look(1, name); n != ino || s != sub {
			t.Errorf("Look(1, %q) = %d, %v, want %d, %v", name, n, s, ino, sub)
		}
	}
	look(edges(), "z", 0, false)
	look(append(edges(), api.Edge{Dir: 1, Name: "a", Ino: 9}), "a", 9, false)
	look(append(edges(), api.Edge{Dir: 1, Name: "a", Ino: 0}), "a", 2, true)
}
