package tree_test

import (
	"fmt"
	"reflect"
	"slices"
	"testing"

	"furrow/api"
	"furrow/pmem"
	"furrow/tree"
	"furrow/volume"
)

// call: a call of one of the five operations: make, link, unlink, rmdir, move.
type call struct {
	op     string
	dir    int
	name   string
	ino    int // make: the kind; move: the other directory
	toname string
}

func (c call) String() string {
	return fmt.Sprintf("%s(%d, %.40q, %d, %.40q)", c.op, c.dir, c.name, c.ino, c.toname)
}

func (c call) on(v *volume.Volume) (int, api.Errno) {
	switch c.op {
	case "make":
		return tree.Make(v, c.dir, c.name, c.ino)
	case "link":
		return 0, tree.Link(v, c.dir, c.name, c.ino)
	case "unlink":
		return 0, tree.Unlink(v, c.dir, c.name)
	case "rmdir":
		return 0, tree.Rmdir(v, c.dir, c.name)
	}
	return 0, tree.Move(v, c.dir, c.name, c.ino, c.toname)
}

func (c call) onTwin(w twin) (int, api.Errno) {
	switch c.op {
	case "make":
		return w.make(c.dir, c.name, c.ino)
	case "link":
		return 0, w.link(c.dir, c.name, c.ino)
	case "unlink":
		return 0, w.unlink(c.dir, c.name)
	case "rmdir":
		return 0, w.rmdir(c.dir, c.name)
	}
	return 0, w.move(c.dir, c.name, c.ino, c.toname)
}

// cost: R10: how many free pages are enough.
func (c call) cost() int {
	if c.op == "move" {
		return 2
	}
	return 1
}

// touches: P17.8: the names that may change.
func (c call) touches() []entry {
	list := []entry{{c.dir, c.name}}
	if c.op == "move" {
		list = append(list, entry{c.ino, c.toname})
	}
	return list
}

// beside: the call on a volume and on its twin.
func (c call) beside(t *testing.T, d *pmem.Device, v *volume.Volume, w twin) (int, api.Errno) {
	t.Helper()
	was, free := v.State(), v.FreePages()
	n, e := c.on(v)
	if m, want := c.onTwin(w); n != m || e != want {
		t.Fatalf("%v = %d, %v; want %d, %v", c, n, e, m, want)
	}
	w.alike(t, c.String(), d, v)
	c.follows(t, was, v, n, e)
	if e == api.ErrNoSpace && free >= c.cost() {
		t.Fatalf("%v = %v, and %d pages are free", c, e, free)
	}
	return n, e
}

// follows: P17.8 of a call that was made where the state was that.
func (c call) follows(t *testing.T, was api.State, v *volume.Volume, n int, e api.Errno) {
	t.Helper()
	now := v.State()
	if e != api.OK {
		if !reflect.DeepEqual(was, now) || n != 0 {
			t.Fatalf("%v = %d, %v: the state is another one", c, n, e)
		}
		return
	}
	for _, k := range changed(was, now) {
		if !slices.Contains(c.touches(), k) {
			t.Fatalf("%v: %v changed", c, k)
		}
	}
	here, there := standsFor(now, c.dir, c.name), standsFor(now, c.ino, c.toname)
	switch a := standsFor(was, c.dir, c.name); c.op {
	case "make":
		if here != n || nodeOf(now, n).Kind != c.ino || nodeOf(now, n).Size != 0 || len(nodeOf(now, n).Names) != 0 {
			t.Fatalf("%v = %d: %+v", c, n, nodeOf(now, here))
		}
	case "link":
		if here != c.ino {
			t.Fatalf("%v: the name stands for %d", c, here)
		}
	case "unlink", "rmdir":
		if here != 0 {
			t.Fatalf("%v: the name stands for %d", c, here)
		}
	case "move":
		if there != a || here != 0 && len(changed(was, now)) > 0 {
			t.Fatalf("%v: the names stand for %d and %d", c, here, there)
		}
	}
}
