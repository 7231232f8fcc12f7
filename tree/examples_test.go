package tree_test

import (
	"testing"

	"furrow/api"
	"furrow/pmem"
	"furrow/tree"
	"furrow/volume"
)

// example: the volume behind the chapter's examples up to that one, each step's answer asked.
func example(t *testing.T, upTo int) (*pmem.Device, *volume.Volume) {
	t.Helper()
	d, v := fresh(t, small)
	steps := []func(){
		func() {
			if a, f, g := makes(t, v, 1, "a", api.KindDir), makes(t, v, 1, "f", api.KindFile), makes(t, v, 2, "g", api.KindFile); a != 2 || f != 3 || g != 4 {
				t.Fatal("the numbers are", a, f, g)
			}
		},
		func() { links(t, v, 2, "h", 3) },
		func() {},
		func() { movesTo(t, v, 1, "f", 2, "h"); movesTo(t, v, 1, "a", 1, "b") },
		func() {},
		func() { movesTo(t, v, 2, "g", 1, "f") },
	}
	for _, step := range steps[:upTo] {
		step()
	}
	return d, v
}

func TestExample1(t *testing.T) {
	d, v := example(t, 1)
	for _, c := range []struct {
		dir  int
		name string
		kind int
		want api.Errno
	}{{1, "a", api.KindFile, api.ErrExist}, {3, "x", api.KindFile, api.ErrNotDir}, {9, "x", api.KindFile, api.ErrNoFile}, {1, "..", api.KindDir, api.ErrBadName}, {9, "", 7, api.ErrEdit}} {
		refuses(t, "Make", d, v, c.want, func() api.Errno {
			n, e := tree.Make(v, c.dir, c.name, c.kind)
			if n != 0 {
				t.Errorf("a number beside an error: %d", n)
			}
			return e
		})
	}
}

func TestExample2(t *testing.T) {
	d, v := example(t, 2)
	stats(t, v, api.Stat{Ino: 3, Kind: api.KindFile, Links: 2})
	refuses(t, "Link(1, k, 2)", d, v, api.ErrIsDir, func() api.Errno { return tree.Link(v, 1, "k", 2) })
	refuses(t, "Link(1, f, 3)", d, v, api.ErrExist, func() api.Errno { return tree.Link(v, 1, "f", 3) })
	refuses(t, "Link(1, k, 8)", d, v, api.ErrNoFile, func() api.Errno { return tree.Link(v, 1, "k", 8) })
	stats(t, v, api.Stat{Ino: 2, Kind: api.KindDir, Size: 2, Links: 1})
}

func TestExample3(t *testing.T) {
	d, v := example(t, 3)
	refuses(t, "Unlink(1, a)", d, v, api.ErrIsDir, func() api.Errno { return tree.Unlink(v, 1, "a") })
	refuses(t, "Rmdir(1, f)", d, v, api.ErrNotDir, func() api.Errno { return tree.Rmdir(v, 1, "f") })
	refuses(t, "Rmdir(1, a)", d, v, api.ErrNotEmpty, func() api.Errno { return tree.Rmdir(v, 1, "a") })
	refuses(t, "Unlink(1, q)", d, v, api.ErrNoEnt, func() api.Errno { return tree.Unlink(v, 1, "q") })
	refuses(t, "Unlink(3, q)", d, v, api.ErrNotDir, func() api.Errno { return tree.Unlink(v, 3, "q") })
}

func TestExample4(t *testing.T) {
	d, v := example(t, 3)
	refuses(t, "Move(1, a, 2, x)", d, v, api.ErrBelow, func() api.Errno { return tree.Move(v, 1, "a", 2, "x") })
	refuses(t, "Move(1, f, 2, h)", d, v, api.OK, func() api.Errno { return tree.Move(v, 1, "f", 2, "h") })
	refuses(t, "Move(1, f, 1, a)", d, v, api.ErrIsDir, func() api.Errno { return tree.Move(v, 1, "f", 1, "a") })
	refuses(t, "Move(1, a, 1, f)", d, v, api.ErrNotDir, func() api.Errno { return tree.Move(v, 1, "a", 1, "f") })
	movesTo(t, v, 1, "a", 1, "b")
	if ino, sub := v.Look(1, "b"); ino != 2 || !sub {
		t.Errorf("b stands for %d, %v", ino, sub)
	}
}

func TestExample5(t *testing.T) {
	_, v := example(t, 5)
	leads(t, v, "/ /b /b/g /b/h /f", 1, 2, 4, 3, 3)
}

func TestExample6(t *testing.T) {
	d, v := example(t, 6)
	leads(t, v, "/ /b /b/h /f", 1, 2, 3, 4)
	stats(t, v, api.Stat{Ino: 3, Kind: api.KindFile, Links: 1})
	movesTo(t, v, 2, "h", 1, "f")
	leads(t, v, "/ /b /f", 1, 2, 3)
	if n := makes(t, v, 2, "n", api.KindDir); n != 4 {
		t.Errorf("the number is %d", n)
	}
	refuses(t, "Move(1, b, 4, z)", d, v, api.ErrBelow, func() api.Errno { return tree.Move(v, 1, "b", 4, "z") })
	rmdirs(t, v, 2, "n")
	rmdirs(t, v, 1, "b")
	refuses(t, "Rmdir(1, b)", d, v, api.ErrNoEnt, func() api.Errno { return tree.Rmdir(v, 1, "b") })
}
