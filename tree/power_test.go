package tree_test

import (
	"math/rand"
	"reflect"
	"testing"

	"furrow/api"
	"furrow/files"
	"furrow/pmem"
	"furrow/tree"
	"furrow/volume"
)

// crashes: what a loss of power may leave of the device: the two ends, and some that are drawn.
func crashes(r *rand.Rand, d *pmem.Device, many int) [][]byte {
	list := [][]byte{d.Crash(nil), d.View()}
	choices := make([]int, len(d.Doubts()))
	for len(choices) > 0 && len(list) < many {
		for k := range choices {
			choices[k] = r.Int()
		}
		list = append(list, d.Crash(choices))
	}
	return list
}

// cutAnywhere: a call on a volume of these bytes is cut at every so many steps; what is left is the tree as it was, or as it is behind the call, wholly. How many steps the whole call does.
func cutAnywhere(t *testing.T, r *rand.Rand, image []byte, stride int, c call) int {
	t.Helper()
	whole := load(t, image)
	v := mounts(t, whole)
	was, steps := walked(t, v), whole.Steps()
	if _, e := c.on(v); e != api.OK {
		t.Fatalf("%v = %v", c, e)
	}
	now, all := walked(t, v), whole.Steps()-steps
	seen := [2]int{}
	for n := all % stride; n <= all; n += stride { // the last one: none is cut
		d := load(t, image)
		v := mounts(t, d)
		d.Arm(n)
		ino, e := c.on(v)
		if e != api.OK && (e != api.ErrDead || ino != 0) || (e == api.OK) != (n == all) {
			t.Fatalf("%v, cut after %d steps of %d: %d, %v", c, n, all, ino, e)
		}
		if e == api.ErrDead {
			if _, e := tree.Walk(v); e != api.ErrClosed {
				t.Fatalf("%v, cut after %d steps: Walk answers %v", c, n, e)
			}
		}
		for _, left := range crashes(r, d, 8) {
			switch got := walked(t, mounts(t, load(t, left))); {
			case reflect.DeepEqual(got, now):
				seen[1]++
			case reflect.DeepEqual(got, was) && e == api.ErrDead:
				seen[0]++
			default:
				t.Fatalf("%v, cut after %d steps of %d (%v): left is\n%+v\nit was\n%+v\nit would be\n%+v", c, n, all, e, got, was, now)
			}
		}
	}
	if seen[0] == 0 || seen[1] == 0 {
		t.Errorf("%v: both were to be seen: %v", c, seen)
	}
	return all
}

// TestT2Cut: calls of all sorts, cut at every step.
func TestT2Cut(t *testing.T) {
	r := chance()
	d, _ := furnished(t)
	for _, c := range []call{
		{"make", 1, "new", api.KindFile, ""}, {"make", 4, "new", api.KindDir, ""}, {"link", 4, "new", 5, ""},
		{"unlink", 2, "g", 0, ""}, {"unlink", 2, "h", 0, ""}, {"rmdir", 1, "e", 0, ""},
		{"move", 1, "f", 1, "new"}, {"move", 2, "g", 2, "h"}, {"move", 2, "h", 2, "g"}, {"move", 1, "a", 1, "e"},
		{"move", 2, "s", 4, "new"}, {"move", 2, "g", 1, "f"}, {"move", 1, "f", 2, "g"}, {"move", 2, "s", 1, "e"},
	} {
		cutAnywhere(t, r, d.View(), 1, c)
	}
}

// TestT2Collected: the same where both directories' logs are collected behind the call.
func TestT2Collected(t *testing.T) {
	r := chance()
	d, v := fresh(t, middling)
	makes(t, v, 1, "d", api.KindDir)
	makes(t, v, 1, "f", api.KindFile)
	makes(t, v, 2, "g", api.KindFile)
	links(t, v, 1, "h", 3)
	for _, c := range []struct {
		dir, many int
		from, to  string
	}{{1, 5, "f", "x"}, {2, 6, "g", "y"}} {
		for range c.many {
			movesTo(t, v, c.dir, c.from, c.dir, c.to)
			c.from, c.to = c.to, c.from
		}
		if n := node(t, v, c.dir); n.Entries != 13 {
			t.Fatalf("%+v", n)
		}
	}
	for _, c := range []call{{"move", 2, "g", 1, "x"}, {"move", 2, "g", 1, "new"}, {"unlink", 1, "x", 0, ""}, {"make", 1, "new", api.KindFile, ""}} {
		cutAnywhere(t, r, d.View(), 2, c)
	}
	movesTo(t, v, 2, "g", 1, "x")
	if a, b := node(t, v, 1), node(t, v, 2); a.Entries != 3 || b.Entries != 0 {
		t.Errorf("the logs weren't collected: %+v, %+v", a, b)
	}
}

// TestT2Again: a long life: calls, cuts, crashes and mounts in turn; what was answered stays, and what was cut is there wholly or not at all.
func TestT2Again(t *testing.T) {
	r := chance()
	for _, s := range []api.Super{small, middling} {
		d, _ := fresh(t, s)
		image, p := d.View(), newPlain()
		cuts := 0
		for life := range 200 {
			d := load(t, image)
			v, err := volume.Mount(d, 1+r.Intn(64), []int{r.Intn(9), r.Intn(9)})
			if err != nil {
				t.Fatalf("life %d: %v", life, err)
			}
			p.is(t, v)
			for range r.Intn(6) {
				one := drawnCall(r, p)
				if n, e := one.on(v); e == api.OK {
					p.takes(one, n)
				}
			}
			was := p.items("/", 1)
			d.Arm(r.Intn(60))
			one := drawnCall(r, p)
			n, e := one.on(v)
			all := crashes(r, d, 8)
			image = all[r.Intn(len(all))]
			if e == api.ErrDead {
				cuts++
				n = leastFree(p)
			}
			got := walked(t, mounts(t, load(t, image)))
			if e == api.OK || e == api.ErrDead && !reflect.DeepEqual(got, was) {
				p.takes(one, n)
			}
			if want := p.items("/", 1); !reflect.DeepEqual(got, want) {
				t.Fatalf("life %d: %v = %v, and left is\n%+v\nwant\n%+v", life, one, e, got, want)
			}
		}
		if cuts < 20 {
			t.Errorf("%v: only %d calls were cut", s, cuts)
		}
	}
}

// leastFree: the lowest number that a plain tree doesn't have.
func leastFree(p plain) int {
	n := 1
	for p[n] != nil {
		n++
	}
	return n
}

// TestP17_5NeverNeither: amid a move of a file with bytes it has one name, and its bytes, always.
func TestP17_5NeverNeither(t *testing.T) {
	r := chance()
	d, v := fresh(t, small)
	makes(t, v, 1, "a", api.KindDir)
	makes(t, v, 1, "b", api.KindDir)
	makes(t, v, 2, "f", api.KindFile)
	writes(t, v, 4, 0, "bytes")
	image := d.View()
	for n := 0; ; n++ {
		d := load(t, image)
		v := mounts(t, d)
		d.Arm(n)
		e := tree.Move(v, 2, "f", 3, "g")
		for _, left := range crashes(r, d, 20) {
			w := mounts(t, load(t, left))
			from, _ := w.Look(2, "f")
			to, _ := w.Look(3, "g")
			if from+to != 4 || from*to != 0 || e == api.OK && to != 4 {
				t.Fatalf("cut after %d steps (%v): the names stand for %d and %d", n, e, from, to)
			}
			if s, e := files.Whole(w, 4); s != "bytes" || e != api.OK {
				t.Fatalf("cut after %d steps: its bytes are %q, %v", n, s, e)
			}
		}
		if e == api.OK {
			return
		}
	}
}
