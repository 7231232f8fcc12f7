package path_test

import (
	"math"
	"math/rand"
	"slices"
	"strings"
	"testing"

	"furrow/api"
	"furrow/path"
)

// odd: parts, of which some can't stand in a text; many begin alike, or differ from "." and ".." by little.
var odd = []string{
	"", ".", "..", "...", "....", ".a", "a.", "..a", "a..", ". ", " .", "a", "b", "c", "f", "ab", "A", "/", "//", "a/", "/a", "a/b", "./", "../", "/..", "\x00", "a\x00", "\x00a", ".\x00", "..\x00", ".\n", "\xff", "\x01", "\x2e\x2e", "\x2f", "\u65e5\u672c", "\xc3", "\u2024",
	strings.Repeat("x", 27), strings.Repeat("x", 28), strings.Repeat("x", 29), strings.Repeat(".", 28), strings.Repeat(".", 29), strings.Repeat("x", 284), strings.Repeat("x", 5000), strings.Repeat("x", 27) + "/", strings.Repeat("x", 28) + "\x00",
}

// wild: numbers of directories and inodes, of which nothing is asked.
var wild = []int{0, 1, 2, 3, -1, -2, -7, 255, 256, 257, 1<<31 - 1, 1 << 31, 1<<32 + 1, -1<<32 + 1, 1 << 62, math.MaxInt, math.MaxInt - 1, math.MinInt, math.MinInt + 1}

func chance() *rand.Rand { return rand.New(rand.NewSource(14)) }

func pick[T any](r *rand.Rand, l []T) T { return l[r.Intn(len(l))] }

func pa(slash bool, parts ...string) api.Path { return api.Path{Parts: parts, Slash: slash} }

func same(a, b api.Path) bool { return slices.Equal(a.Parts, b.Parts) && a.Slash == b.Slash }

func copyOf(p api.Path) api.Path { return api.Path{Parts: slices.Clone(p.Parts), Slash: p.Slash} }

// read: the path of a text that must be one.
func read(t *testing.T, text string) api.Path {
	t.Helper()
	p, e := path.Parse(text)
	if e != api.OK {
		t.Fatalf("Parse(%q): %d", text, e)
	}
	return p
}

// parse: Parse by the chapter's words.
func parse(text string) (api.Path, api.Errno) {
	if len(text) > 200 {
		return api.Path{}, api.ErrPathLong
	}
	if text == "" || text[0] != 47 || strings.Contains(text, "\x00") {
		return api.Path{}, api.ErrPathForm
	}
	var p api.Path
	for _, part := range strings.Split(text, "/") {
		if len(part) > 28 {
			return api.Path{}, api.ErrNameLong
		}
		if part != "" {
			p.Parts = append(p.Parts, part)
		}
	}
	p.Slash = len(p.Parts) > 0 && strings.HasSuffix(text, "/")
	return p, api.OK
}

// ask: a question that Dirs was asked.
type ask struct {
	dir  int
	name string
}

// asked: Dirs that keeps what it was asked, and answers as another.
type asked struct {
	of   path.Dirs
	list []ask
}

func (a *asked) Look(dir int, name string) (int, bool) {
	a.list = append(a.list, ask{dir, name})
	return a.of.Look(dir, name)
}

// saying: Dirs by a function.
type saying func(dir int, name string) (int, bool)

func (s saying) Look(dir int, name string) (int, bool) { return s(dir, name) }

// answer: what Resolve answers.
type answer struct {
	ino int
	sub bool
	e   api.Errno
}

func resolve(t path.Dirs, p api.Path) answer {
	ino, sub, e := path.Resolve(t, p)
	return answer{ino, sub, e}
}

// led: Resolve by the chapter's words, the way as the inodes behind the root, from the last to the first; and the Looks that it wants.
func led(t path.Dirs, p api.Path) (answer, []ask) {
	var inos []int
	var subs []bool
	var asks []ask
	for _, part := range p.Parts {
		at, sub := 1, true
		if len(inos) > 0 {
			at, sub = inos[0], subs[0]
		}
		if !sub {
			return answer{0, false, api.ErrNotDir}, asks
		}
		if part == "." {
			continue
		}
		if part == ".." {
			if len(inos) > 0 {
				inos, subs = inos[1:], subs[1:]
			}
			continue
		}
		asks = append(asks, ask{at, part})
		n, s := t.Look(at, part)
		if n <= 0 {
			return answer{0, false, api.ErrNoEnt}, asks
		}
		inos, subs = append([]int{n}, inos...), append([]bool{s}, subs...)
	}
	if len(inos) == 0 {
		return answer{1, true, api.OK}, asks
	}
	if p.Slash && !subs[0] {
		return answer{0, false, api.ErrNotDir}, asks
	}
	return answer{inos[0], subs[0], api.OK}, asks
}

// forest: edges among a few directories and names, so that many paths lead somewhere, some in rings, some to numbers that are wild.
func forest(r *rand.Rand) []api.Edge {
	var l []api.Edge
	for range 4 + r.Intn(30) {
		g := api.Edge{Dir: 1 + r.Intn(5), Name: pick(r, []string{"a", "b", "c", "", ".", "..", "x/y"}), Ino: r.Intn(7) - 1, Sub: r.Intn(4) > 0}
		if r.Intn(12) == 0 {
			g.Ino = pick(r, wild)
		}
		if r.Intn(12) == 0 {
			g.Dir = pick(r, wild)
		}
		l = append(l, g)
	}
	return l
}

// somePath: a path of a few parts that a forest may have.
func somePath(r *rand.Rand) api.Path {
	p := api.Path{Slash: r.Intn(3) == 0}
	for range r.Intn(7) {
		p.Parts = append(p.Parts, pick(r, []string{"a", "b", "c", "a", "b", "c", ".", "..", "", "x/y", "gone"}))
	}
	return p
}
