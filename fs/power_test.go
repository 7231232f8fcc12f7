package fs_test

import (
	"errors"
	"math/rand"
	"reflect"
	"slices"
	"strings"
	"testing"

	"furrow/api"
	"furrow/fs"
	"furrow/pmem"
)

// crashes: what a loss of power may leave of the device: all of it, if it isn't much; else the two ends, and some that are drawn.
func crashes(r *rand.Rand, d *pmem.Device, many int) [][]byte {
	doubts := d.Doubts()
	all := 1
	for _, w := range doubts {
		all = min(all*(len(w.News)+1), many+1)
	}
	if all <= many {
		return every(d, doubts, all)
	}
	list := [][]byte{d.Crash(nil), d.View()}
	choices := make([]int, len(doubts))
	for len(list) < many {
		for k := range choices {
			choices[k] = r.Int()
		}
		list = append(list, d.Crash(choices))
	}
	return list
}

// every: the bytes of each list of choices there is, of which there are so many.
func every(d *pmem.Device, doubts []api.Doubt, all int) [][]byte {
	var list [][]byte
	for n := range all {
		choices := make([]int, len(doubts))
		for k, w := range doubts {
			choices[k] = n % (len(w.News) + 1)
			n /= len(w.News) + 1
		}
		list = append(list, d.Crash(choices))
	}
	return list
}

// found: the tree that a mount of these bytes finds, by any workers.
func found(t *testing.T, r *rand.Rand, image []byte) []api.Item {
	t.Helper()
	f, err := fs.Mount(load(t, image), 1+r.Intn(64), []int{r.Intn(9), -r.Intn(9), r.Int()})
	if err != nil {
		t.Fatalf("Mount: %v", err)
	}
	return walked(t, f)
}

// cutAnywhere: an operation on a device of these bytes, which mean that plain tree, is cut at every so many steps; what is left is the tree as it was, or as it is behind the operation, wholly. How many steps the whole operation does.
func cutAnywhere(t *testing.T, r *rand.Rand, image []byte, p *plain, stride, many int, o op) int {
	t.Helper()
	whole := load(t, image)
	f := mounts(t, whole)
	was, steps := walked(t, f), whole.Steps()
	if want, a := p.does(o), asks(t, f, o); !a.is(want) {
		t.Fatalf("%v = %+v; want %+v", o, a, want)
	}
	now, all := p.items(), whole.Steps()-steps
	seen := [2]int{}
	for n := all % stride; n <= all; n += stride { // the last one: none is cut
		d := load(t, image)
		f := mounts(t, d)
		d.Arm(n)
		a := asks(t, f, o)
		if a.e != api.OK && a.e != api.ErrDead || (a.e == api.OK) != (n == all) {
			t.Fatalf("%v, cut after %d steps of %d: %v", o, n, all, a.e)
		}
		if o := stat("/"); a.e == api.ErrDead && asks(t, f, o).e != api.ErrClosed {
			t.Fatalf("%v, cut after %d steps: it isn't closed", o, n)
		}
		for _, left := range crashes(r, d, many) {
			switch got := found(t, r, left); {
			case reflect.DeepEqual(got, now):
				seen[1]++
			case reflect.DeepEqual(got, was) && a.e == api.ErrDead:
				seen[0]++
			default:
				t.Fatalf("%v, cut after %d steps of %d (%v): left is\n%+v\nit was\n%+v\nit would be\n%+v", o, n, all, a.e, got, was, now)
			}
		}
	}
	if all > 0 && (seen[0] == 0 || seen[1] == 0) {
		t.Errorf("%v: both were to be seen: %v", o, seen)
	}
	return all
}

// TestT2Cut: operations of all sorts, cut at every step.
func TestT2Cut(t *testing.T) {
	r := chance()
	d, _, _ := furnished(t)
	image := d.View()
	for _, o := range []op{
		create("/new"), create("/e/new"), mkdir("/a/s/t/new/"), unlink("/f"), unlink("/a/g"), rmdir("/e"), link("/a/g", "/d/new"),
		rename("/f", "/new"), rename("/a", "/e"), rename("/a/s", "/d/new"), rename("/a/g", "/d/k"), rename("/a/g", "/f"), rename("/a/h", "/a/g"),
		write("/f", 2, "over the end"), write("/a/g", 3000, "x"), write("/d/k", 511, "xy"), truncate("/a/g", 601), truncate("/a/g", 0), truncate("/f", 9999),
	} {
		cutAnywhere(t, r, image, grown(middling, furniture()), 1, 12, o)
	}
	long := strings.Repeat("many pages, ", 341)
	cutAnywhere(t, r, image, grown(middling, furniture()), 5, 6, write("/a/g", 300, long))
}

// worn: operations behind which the logs of the root, of /d and of /f are due at their next entry.
func worn() []op {
	ops := []op{mkdir("/d"), create("/f"), create("/d/g"), link("/f", "/h")}
	for range 5 {
		ops = append(ops, rename("/f", "/x"), rename("/x", "/f"), rename("/d/g", "/d/y"), rename("/d/y", "/d/g"))
	}
	for i := range 13 {
		ops = append(ops, write("/f", 0, string(rune('a'+i))))
	}
	return ops
}

// collects: whether a log is collected behind an operation on a device of these bytes.
func collects(t *testing.T, image []byte, o op) bool {
	t.Helper()
	d := load(t, image)
	did(t, mounts(t, d), o)
	was := map[int]int{}
	for _, n := range replayed(t, image).Nodes {
		was[n.Ino] = n.Entries
	}
	return slices.ContainsFunc(replayed(t, d.View()).Nodes, func(n api.Node) bool { return n.Entries < was[n.Ino] })
}

// TestT2Collected: the same where logs are collected behind the operation.
func TestT2Collected(t *testing.T) {
	r := chance()
	for _, last := range []op{write("/f", 1, "q"), truncate("/f", 0), unlink("/h"), rename("/d/g", "/f"), rename("/d/g", "/new"), rename("/h", "/d/new"), create("/d/new")} {
		collected := 0
		for n := range 8 { // not all logs are due at the same time
			ops := worn()
			for i := range n {
				ops = append(ops, []op{link("/f", "/o"), unlink("/o")}[i%2], []op{link("/f", "/d/o"), unlink("/d/o")}[i%2])
			}
			d, f := fresh(t, middling)
			did(t, f, ops...)
			if collects(t, d.View(), last) && collected < 2 {
				collected++
				cutAnywhere(t, r, d.View(), grown(middling, ops), 2, 6, last)
			}
		}
		if collected == 0 {
			t.Errorf("%v: no log was collected", last)
		}
	}
}

// TestT2Unmount: an unmount, and a mount behind it, that are cut leave the tree as it is.
func TestT2Unmount(t *testing.T) {
	r := chance()
	d, _, p := furnished(t)
	image, want := d.View(), p.items()
	for n, dead := 0, true; dead; n++ {
		d := load(t, image)
		f := mounts(t, d)
		d.Arm(n)
		dead = asks(t, f, op{name: "unmount"}).e == api.ErrDead
		for _, left := range crashes(r, d, 64) {
			if got := found(t, r, left); !reflect.DeepEqual(got, want) {
				t.Fatalf("an unmount that is cut after %d steps leaves\n%+v", n, got)
			}
			if !dead && mounts(t, load(t, left)).Why() != api.OK {
				t.Fatal("the record isn't taken")
			}
		}
		for m, dies := 0, !dead; dies; m++ {
			g := load(t, d.View())
			g.Arm(m)
			_, err := fs.Mount(g, 2, nil)
			dies = err == error(api.ErrDead)
			for _, left := range crashes(r, g, 64) {
				if got := found(t, r, left); !reflect.DeepEqual(got, want) || !dies && err != nil {
					t.Fatalf("a mount that is cut after %d steps (%v) leaves\n%+v", m, err, got)
				}
			}
		}
	}
}

// meaning: the tree of a device's bytes, or its breach.
func meaning(t *testing.T, image []byte) ([]api.Item, api.CorruptError) {
	t.Helper()
	f, err := fs.Mount(load(t, image), 2, nil)
	var c *api.CorruptError
	if errors.As(err, &c) {
		return nil, *c
	}
	if err != nil {
		t.Fatal("Mount", err)
	}
	return walked(t, f), api.CorruptError{}
}

// cutMkfs: mkfs of a device of these bytes is cut at every step; how often what the device meant was left, no superblock, the new empty tree.
func cutMkfs(t *testing.T, r *rand.Rand, image []byte, s api.Super) [3]int {
	t.Helper()
	_, f := fresh(t, s)
	empty := informed(t, f)
	was, breach := meaning(t, image)
	seen := [3]int{}
	for n, dead := 0, true; dead; n++ {
		d := load(t, image)
		d.Arm(n)
		err := fs.Mkfs(d, s)
		dead = err == error(api.ErrDead)
		for _, left := range crashes(r, d, 12) {
			switch got, why := meaning(t, left); {
			case len(got) == 1 && informed(t, mounts(t, load(t, left))) == empty:
				seen[2]++
			case dead && reflect.DeepEqual(got, was) && why == breach:
				seen[0]++
			case dead && why == api.CorruptError{Reason: api.ErrSuper}:
				seen[1]++
			default:
				t.Fatalf("mkfs of %v, cut after %d steps (%v), leaves %+v, %+v", s, n, err, got, why)
			}
		}
	}
	return seen
}

// TestT2Mkfs: amid mkfs a loss of power leaves what the device meant, no superblock, or the new empty tree.
func TestT2Mkfs(t *testing.T) {
	r := chance()
	d, f, _ := furnished(t)
	did(t, f, op{name: "unmount"})
	spoilt := d.View()
	spoilt[2048+64*11] = 1
	for i, image := range [][]byte{make([]byte, 60*512), d.View(), spoilt} {
		for _, s := range []api.Super{middling, {Pages: 60, Inodes: 24, Cores: 2}, {Pages: 60, Inodes: 8, Cores: 8}} {
			if seen := cutMkfs(t, r, image, s); seen[0] == 0 || seen[1] == 0 && i > 0 || seen[2] == 0 { // the first one has no superblock anyway
				t.Errorf("image %d: all three were to be seen: %v", i, seen)
			}
		}
	}
}

// TestT2Again: a long life: operations, cuts, crashes and mounts in turn; what was answered stays, and what was cut is there wholly or not at all.
func TestT2Again(t *testing.T) {
	r := chance()
	for _, s := range []api.Super{small, middling, tight} {
		d, _ := fresh(t, s)
		image, p := d.View(), newPlain(s)
		cuts := 0
		for life := range 250 {
			if life%50 == 49 { // it may be full for good
				image, p = d.View(), newPlain(s)
			}
			d := load(t, image)
			f, err := fs.Mount(d, 1+r.Intn(64), []int{r.Intn(9), r.Intn(9)})
			if err != nil {
				t.Fatalf("life %d: %v", life, err)
			}
			for range r.Intn(6) {
				o := drawnOp(r, p)
				if out := p.asked(o); asks(t, f, o).e == api.OK && out.change != nil {
					out.change()
				}
			}
			was := p.items()
			d.Arm(r.Intn(80))
			o := drawnOp(r, p)
			out, e := p.asked(o), asks(t, f, o).e
			image = oneOf(r, crashes(r, d, 16))
			got := found(t, r, image)
			if e == api.ErrDead {
				cuts++
			}
			if out.change != nil && (e == api.OK || e == api.ErrDead && !reflect.DeepEqual(got, was)) {
				out.change()
			}
			if want := p.items(); !reflect.DeepEqual(got, want) {
				t.Fatalf("life %d: %v = %v, and left is\n%+v\nwant\n%+v", life, o, e, got, want)
			}
			isPlain(t, mounts(t, load(t, image)), p)
		}
		if cuts < 5 {
			t.Errorf("%v: only %d operations were cut", s, cuts)
		}
	}
}

// TestT2Session: each operation of a drawn session that changes something, cut here and there.
func TestT2Session(t *testing.T) {
	r := chance()
	for _, s := range []api.Super{small, middling} {
		d, f := fresh(t, s)
		p, done := newPlain(s), []op(nil)
		for range 600 {
			o, image := drawnOp(r, p), d.View()
			out := p.asked(o)
			if out.change == nil || asks(t, f, o).e != api.OK {
				continue
			}
			if len(done)%3 == 0 {
				cutAnywhere(t, r, image, grown(s, done), 5, 5, o)
			}
			out.change()
			done = append(done, o)
		}
		isPlain(t, f, p)
		if len(done) < 15 {
			t.Errorf("%v: only %d operations were done", s, len(done))
		}
	}
}
