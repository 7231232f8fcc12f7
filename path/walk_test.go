package path_test

import (
	"math"
	"slices"
	"strings"
	"testing"

	"furrow/api"
	"furrow/path"
)

// lookIn: Look by the chapter's words, from the list's end.
func lookIn(l []api.Edge, dir int, name string) (int, bool) {
	for i := len(l) - 1; i >= 0; i-- {
		if l[i].Dir == dir && l[i].Name == name && l[i].Ino > 0 {
			return l[i].Ino, l[i].Sub
		}
	}
	return 0, false
}

func TestP14_4Drawn(t *testing.T) {
	r := chance()
	for range 300 {
		var l []api.Edge
		for range r.Intn(40) {
			l = append(l, api.Edge{Dir: pick(r, wild), Name: pick(r, odd), Ino: pick(r, wild), Sub: r.Intn(2) == 0})
		}
		tab := path.NewTable(l)
		for range 200 {
			dir, name := pick(r, wild), pick(r, odd)
			if len(l) > 0 && r.Intn(2) == 0 {
				g := pick(r, l)
				dir, name = g.Dir, g.Name
			}
			wi, ws := lookIn(l, dir, name)
			if n, s := tab.Look(dir, name); n != wi || s != ws {
				t.Fatalf("P14.4: Look(%d, %q) = %d, %v, want %d, %v of %+v", dir, name, n, s, wi, ws, l)
			}
		}
	}
}

func TestP14_4Edges(t *testing.T) {
	for _, c := range []struct {
		list []api.Edge
		dir  int
		name string
		ino  int
		sub  bool
	}{
		{nil, 1, "a", 0, false},
		{[]api.Edge{{Dir: 1, Name: "a", Ino: 1}}, 1, "a", 1, false},
		{[]api.Edge{{Dir: 1, Name: "a", Ino: 0, Sub: true}}, 1, "a", 0, false},
		{[]api.Edge{{Dir: 1, Name: "a", Ino: -1, Sub: true}}, 1, "a", 0, false},
		{[]api.Edge{{Dir: 1, Name: "a", Ino: math.MinInt, Sub: true}}, 1, "a", 0, false},
		{[]api.Edge{{Dir: 1, Name: "a", Ino: math.MaxInt, Sub: true}}, 1, "a", math.MaxInt, true},
		{[]api.Edge{{Dir: 1, Name: "a", Ino: 2, Sub: true}, {Dir: 1, Name: "a", Ino: 3}}, 1, "a", 3, false},
		{[]api.Edge{{Dir: 1, Name: "a", Ino: 2, Sub: true}, {Dir: 1, Name: "a", Ino: 3}, {Dir: 1, Name: "a", Ino: -4, Sub: true}}, 1, "a", 3, false},
		{[]api.Edge{{Dir: 0, Name: "", Ino: 5, Sub: true}}, 0, "", 5, true},
		{[]api.Edge{{Dir: math.MinInt, Name: "/", Ino: 5, Sub: true}}, math.MinInt, "/", 5, true},
		{[]api.Edge{{Dir: 1, Name: "..", Ino: 5, Sub: true}}, 1, "..", 5, true},
		{[]api.Edge{{Dir: 1, Name: "a\x00", Ino: 5, Sub: true}}, 1, "a", 0, false},
		{[]api.Edge{{Dir: 1, Name: "a", Ino: 5, Sub: true}}, 1<<32 + 1, "a", 0, false},
		{[]api.Edge{{Dir: 1, Name: strings.Repeat("n", 300), Ino: 5}}, 1, strings.Repeat("n", 300), 5, false},
	} {
		if n, s := path.NewTable(c.list).Look(c.dir, c.name); n != c.ino || s != c.sub {
			t.Errorf("P14.4: Look(%d, %q) = %d, %v, want %d, %v of %+v", c.dir, c.name, n, s, c.ino, c.sub, c.list)
		}
	}
}

// A table says again and again what its list said, and two have nothing to do with one another.
func TestP14_4Kept(t *testing.T) {
	l := edges()
	one, two := path.NewTable(l), path.NewTable(nil)
	for i := range l {
		l[i] = api.Edge{Dir: 1, Name: "a", Ino: 77}
	}
	for range 2 {
		if n, s := one.Look(1, "a"); n != 2 || !s {
			t.Errorf("P14.4: the list is kept: %d, %v", n, s)
		}
		if n, _ := two.Look(1, "a"); n != 0 {
			t.Errorf("P14.4: the other table's edges: %d", n)
		}
	}
}

func checkLed(t *testing.T, d path.Dirs, p api.Path) {
	t.Helper()
	want, asks := led(d, p)
	a := &asked{of: d}
	if got := resolve(a, p); got != want || !slices.Equal(a.list, asks) {
		t.Fatalf("P14.5: Resolve(%q, %v) = %+v asking %v, want %+v asking %v", p.Parts, p.Slash, got, a.list, want, asks)
	}
}

func TestP14_5Drawn(t *testing.T) {
	r := chance()
	var oks int
	for range 400 {
		tab := path.NewTable(forest(r))
		for range 100 {
			p := somePath(r)
			checkLed(t, tab, p)
			if w, _ := led(tab, p); w.e == api.OK && w.ino > 1 {
				oks++
			}
		}
	}
	if oks < 1000 {
		t.Errorf("only %d paths led beyond the root", oks)
	}
}

// Every path of up to five parts, over directories that have everything.
func TestP14_5Short(t *testing.T) {
	full := saying(func(dir int, name string) (int, bool) {
		switch name {
		case "gone":
			return -1, true
		case "f":
			return dir*2 + 1, false
		}
		return dir * 2, true
	})
	var grow func(parts []string)
	grow = func(parts []string) {
		checkLed(t, full, pa(false, parts...))
		checkLed(t, full, pa(true, parts...))
		if len(parts) == 5 {
			return
		}
		for _, part := range []string{".", "..", "d", "f", "gone"} {
			grow(append(slices.Clone(parts), part))
		}
	}
	grow(nil)
}

// What Look says below 1 is no name, whatever else it says; any other number is one, the root's too.
func TestP14_5Numbers(t *testing.T) {
	for _, n := range wild {
		for _, sub := range []bool{false, true} {
			d := saying(func(int, string) (int, bool) { return n, sub })
			for _, p := range []api.Path{pa(false, "a"), pa(true, "a"), pa(false, "a", "b"), pa(false, "a", ".."), pa(false, "a", "."), pa(false, "a", "..", "..", "b")} {
				checkLed(t, d, p)
			}
		}
	}
}

// The way back is the one that was come, though the inodes stand in it several times.
func TestP14_5Rings(t *testing.T) {
	tab := path.NewTable([]api.Edge{{Dir: 1, Name: "up", Ino: 1, Sub: true}, {Dir: 1, Name: "a", Ino: 2, Sub: true}, {Dir: 2, Name: "up", Ino: 1, Sub: true}, {Dir: 2, Name: "self", Ino: 2, Sub: true}})
	for text, want := range map[string]answer{
		"/up/up/..": {1, true, api.OK}, "/a/up/a/up/..": {2, true, api.OK}, "/a/up/../..": {1, true, api.OK}, "/a/self/self/..": {2, true, api.OK}, "/a/self/../..": {1, true, api.OK}, "/a/up/..": {2, true, api.OK}, "/a/up/../self": {2, true, api.OK}, "/a/up/../../self": {0, false, api.ErrNoEnt},
	} {
		if got := resolve(tab, read(t, text)); got != want {
			t.Errorf("P14.5: Resolve(%q) = %+v, want %+v", text, got, want)
		}
	}
	far := append(slices.Repeat([]string{"up"}, 1<<12), slices.Repeat([]string{".."}, 1<<12+5)...)
	checkLed(t, tab, pa(true, far...))
}

// Parts are taken as they stand, such as no text has them too.
func TestP14_5Odd(t *testing.T) {
	var l []api.Edge
	for i, name := range odd {
		l = append(l, api.Edge{Dir: 1, Name: name, Ino: 10 + i, Sub: i%2 == 0})
	}
	tab := path.NewTable(l)
	for _, a := range odd {
		checkLed(t, tab, pa(false, a))
		checkLed(t, tab, pa(true, a))
		checkLed(t, tab, pa(false, "..", a))
		checkLed(t, tab, pa(false, a, "b"))
		checkLed(t, path.NewTable(nil), pa(false, a))
	}
}

func checkParent(t *testing.T, d path.Dirs, p api.Path) {
	t.Helper()
	a := &asked{of: d}
	dir, last, e := path.Parent(a, p)
	fail := func(why string) {
		t.Helper()
		t.Fatalf("P14.6: Parent(%q, %v) = %d, %q, %d asking %v: %s", p.Parts, p.Slash, dir, last, e, a.list, why)
	}
	n := len(p.Parts)
	if n == 0 || p.Parts[n-1] == "." || p.Parts[n-1] == ".." {
		if dir != 0 || last != "" || e != api.ErrPathEnd || len(a.list) != 0 {
			fail("want ErrPathEnd, nothing asked")
		}
		return
	}
	want, asks := led(d, api.Path{Parts: p.Parts[:n-1]})
	if want.e == api.OK && !want.sub {
		want = answer{0, false, api.ErrNotDir}
	}
	name := ""
	if want.e == api.OK {
		name = p.Parts[n-1]
	}
	if dir != want.ino || last != name || e != want.e || !slices.Equal(a.list, asks) {
		fail("want " + name)
	}
	if e == api.OK {
		checkLast(t, d, p, dir, last)
	}
}

// checkLast: what Resolve answers, told by Look of what Parent answered.
func checkLast(t *testing.T, d path.Dirs, p api.Path, dir int, last string) {
	t.Helper()
	ino, sub := d.Look(dir, last)
	want := answer{ino, sub, api.OK}
	if ino < 1 {
		want = answer{0, false, api.ErrNoEnt}
	} else if p.Slash && !sub {
		want = answer{0, false, api.ErrNotDir}
	}
	if got := resolve(d, p); got != want {
		t.Fatalf("P14.7: Resolve(%q, %v) = %+v, want %+v by Parent's %d, %q", p.Parts, p.Slash, got, want, dir, last)
	}
}

func TestP14_6Drawn(t *testing.T) {
	r := chance()
	for range 400 {
		tab := path.NewTable(forest(r))
		for range 100 {
			checkParent(t, tab, somePath(r))
		}
	}
}

func TestP14_6Odd(t *testing.T) {
	tab := path.NewTable(edges())
	for _, a := range odd {
		for _, p := range []api.Path{pa(false, a), pa(true, a), pa(false, "a", a), pa(true, "a", "b", a), pa(false, "f", a), pa(false, "x", a), pa(true, "z", a), pa(false, a, "q"), pa(false, "f", "..", a), pa(false, "a", "..", a), pa(false, "..", a)} {
			checkParent(t, tab, p)
		}
	}
	for _, n := range wild {
		d := saying(func(int, string) (int, bool) { return n, n%2 == 0 })
		checkParent(t, d, pa(false, "a", "b"))
		checkParent(t, d, pa(true, "a", ".", "b"))
	}
}

// Where a path leads somewhere, the clean one leads there too; not the other way round.
func TestP14_7Clean(t *testing.T) {
	r := chance()
	more := 0
	for range 400 {
		tab := path.NewTable(forest(r))
		for range 100 {
			p := somePath(r)
			got, clean := resolve(tab, p), resolve(tab, path.Clean(p))
			if got.e == api.OK && clean != got {
				t.Fatalf("P14.7: Resolve(%q, %v) = %+v, of the clean path %+v", p.Parts, p.Slash, got, clean)
			}
			if got.e != api.OK && clean.e == api.OK {
				more++
			}
		}
	}
	if more == 0 {
		t.Error("no path led somewhere only when it was clean")
	}
	tab := path.NewTable(nil)
	if got, clean := resolve(tab, pa(false, "x", "..")), resolve(tab, path.Clean(pa(false, "x", ".."))); got.e != api.ErrNoEnt || clean != (answer{1, true, api.OK}) {
		t.Errorf("P14.7: %+v and %+v", got, clean)
	}
}
