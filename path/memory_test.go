package path_test

import (
	"slices"
	"testing"

	"furrow/api"
	"furrow/path"
)

// roomy: a path whose list has spare room, with a mark in it.
func roomy(slash bool, parts ...string) (api.Path, []string) {
	all := append(slices.Clone(parts), "spare", "room")
	return api.Path{Parts: all[:len(parts)], Slash: slash}, all
}

// The lists that are handed in are left alone, their spare room too.
func TestArgumentsLeft(t *testing.T) {
	tab := path.NewTable(edges())
	for _, parts := range [][]string{{}, {"a"}, {"a", ".."}, {"a", "b", "f"}, {"a", ".", "..", "q"}, {"..", "x"}} {
		p, all := roomy(true, parts...)
		was := slices.Clone(all)
		path.Text(p)
		path.Clean(p)
		path.Resolve(tab, p)
		path.Parent(tab, p)
		if !slices.Equal(all, was) {
			t.Errorf("R3: %q became %q", was, all)
		}
	}
	l := edges()
	path.NewTable(l[:3])
	if !slices.Equal(l, edges()) {
		t.Errorf("R3: the edges became %+v", l)
	}
}

// Lists that are answered are memory of their own.
func TestAnswersAreNew(t *testing.T) {
	p, _ := path.Parse("/abc/def/")
	c := path.Clean(p)
	c.Parts[0] = "changed"
	if p.Parts[0] != "abc" {
		t.Errorf("R3: Clean shares its list: %q", p.Parts)
	}
	q, _ := path.Parse("/abc/def/")
	q.Parts = append(q.Parts[:0], "x", "y", "z")
	if again, _ := path.Parse("/abc/def/"); !slices.Equal(again.Parts, p.Parts) {
		t.Errorf("R3: Parse keeps its list: %q", again.Parts)
	}
	one, other := path.Clean(p), path.Clean(p)
	one.Parts = append(one.Parts[:0], "x", "y", "z")
	if !slices.Equal(other.Parts, []string{"abc", "def"}) {
		t.Errorf("R3: two answers share a list: %q", other.Parts)
	}
}

// A table of no list and one that nobody made have no names.
func TestEmptyTables(t *testing.T) {
	for _, tab := range []*path.Table{path.NewTable(nil), path.NewTable([]api.Edge{}), {}} {
		if n, s := tab.Look(1, "a"); n != 0 || s {
			t.Errorf("Look = %d, %v", n, s)
		}
		if got := resolve(tab, pa(false, "a")); got != (answer{0, false, api.ErrNoEnt}) {
			t.Errorf("Resolve = %+v", got)
		}
	}
}
