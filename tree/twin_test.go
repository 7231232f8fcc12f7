package tree_test

import (
	"bytes"
	"reflect"
	"slices"
	"testing"

	"furrow/api"
	"furrow/pmem"
	"furrow/volume"
)

// A twin is a volume of its own to which the edits are done that the chapter says, in its words; what is refused is asked of its State alone. What the calls do is held against it: their answers, the device's bytes, its steps and its doubts.
type twin struct {
	d *pmem.Device
	v *volume.Volume
}

// twinOf: a twin of a device, with as many steps done.
func twinOf(t *testing.T, d *pmem.Device) twin {
	t.Helper()
	m := load(t, d.View())
	w := mounts(t, m)
	for m.Steps() < d.Steps() {
		m.Fence()
	}
	return twin{m, w}
}

// kindOf: the kind of a number, 0: it isn't there.
func kindOf(st api.State, ino int) int { return nodeOf(st, ino).Kind }

func nodeOf(st api.State, ino int) api.Node {
	for _, n := range st.Nodes {
		if n.Ino == ino {
			return n
		}
	}
	return api.Node{}
}

// standsFor: what a name in a directory stands for, 0: nothing.
func standsFor(st api.State, dir int, name string) int {
	for _, d := range nodeOf(st, dir).Names {
		if d.Name == name {
			return d.Ino
		}
	}
	return 0
}

func goodName(name string) bool {
	return len(name) >= 1 && len(name) <= 28 && name != "." && name != ".." && !bytes.ContainsAny([]byte(name), "\x00/")
}

// upFrom: whether the way up from a directory goes through top.
func upFrom(st api.State, dir, top int) bool {
	for dir != top && dir != 1 {
		up := 0
		for _, n := range st.Nodes {
			for _, d := range n.Names {
				if d.Ino == dir {
					up = n.Ino
				}
			}
		}
		dir = up
	}
	return dir == top
}

func (w twin) make(dir int, name string, kind int) (int, api.Errno) {
	st := w.v.State()
	n := 1
	for n <= st.Shape.Inodes && kindOf(st, n) != 0 {
		n++
	}
	switch {
	case len(st.Nodes) == 0:
		return 0, api.ErrClosed
	case kind != 1 && kind != 2:
		return 0, api.ErrEdit
	case kindOf(st, dir) == 0:
		return 0, api.ErrNoFile
	case kindOf(st, dir) == 1:
		return 0, api.ErrNotDir
	case !goodName(name):
		return 0, api.ErrBadName
	case standsFor(st, dir, name) != 0:
		return 0, api.ErrExist
	case n > st.Shape.Inodes:
		return 0, api.ErrNoInodes
	}
	e := w.v.Do([]api.Edit{{Ino: dir, Entries: []api.Entry{{Kind: 3, Name: name, Ino: n}}}, {Ino: n, Kind: kind, Links: 1}})
	if e != api.OK {
		return 0, e
	}
	return n, e
}

func (w twin) link(dir int, name string, ino int) api.Errno {
	st := w.v.State()
	switch {
	case len(st.Nodes) == 0:
		return api.ErrClosed
	case kindOf(st, dir) == 0:
		return api.ErrNoFile
	case kindOf(st, dir) == 1:
		return api.ErrNotDir
	case !goodName(name):
		return api.ErrBadName
	case kindOf(st, ino) == 0:
		return api.ErrNoFile
	case kindOf(st, ino) == 2:
		return api.ErrIsDir
	case standsFor(st, dir, name) != 0:
		return api.ErrExist
	case nodeOf(st, ino).Links == 100:
		return api.ErrLinks
	}
	return w.v.Do([]api.Edit{{Ino: dir, Entries: []api.Entry{{Kind: 3, Name: name, Ino: ino}}}, {Ino: ino, Links: nodeOf(st, ino).Links + 1}})
}

// loses: the Links of an edit behind which an inode has one name less.
func loses(n api.Node) int {
	if n.Kind == 2 || n.Links == 1 {
		return -1
	}
	return n.Links - 1
}

func (w twin) unlink(dir int, name string) api.Errno {
	st := w.v.State()
	f := standsFor(st, dir, name)
	switch {
	case len(st.Nodes) == 0:
		return api.ErrClosed
	case kindOf(st, dir) == 0:
		return api.ErrNoFile
	case kindOf(st, dir) == 1:
		return api.ErrNotDir
	case f == 0:
		return api.ErrNoEnt
	case kindOf(st, f) == 2:
		return api.ErrIsDir
	}
	return w.v.Do([]api.Edit{{Ino: dir, Entries: []api.Entry{{Kind: 4, Name: name}}}, {Ino: f, Links: loses(nodeOf(st, f))}})
}

func (w twin) rmdir(dir int, name string) api.Errno {
	st := w.v.State()
	d := standsFor(st, dir, name)
	switch {
	case len(st.Nodes) == 0:
		return api.ErrClosed
	case kindOf(st, dir) == 0:
		return api.ErrNoFile
	case kindOf(st, dir) == 1:
		return api.ErrNotDir
	case d == 0:
		return api.ErrNoEnt
	case kindOf(st, d) == 1:
		return api.ErrNotDir
	case len(nodeOf(st, d).Names) > 0:
		return api.ErrNotEmpty
	}
	return w.v.Do([]api.Edit{{Ino: dir, Entries: []api.Entry{{Kind: 4, Name: name}}}, {Ino: d, Links: -1}})
}

func (w twin) move(dir int, name string, todir int, toname string) api.Errno {
	st := w.v.State()
	a, b := standsFor(st, dir, name), standsFor(st, todir, toname)
	switch {
	case len(st.Nodes) == 0:
		return api.ErrClosed
	case kindOf(st, dir) == 0:
		return api.ErrNoFile
	case kindOf(st, dir) == 1:
		return api.ErrNotDir
	case kindOf(st, todir) == 0:
		return api.ErrNoFile
	case kindOf(st, todir) == 1:
		return api.ErrNotDir
	case !goodName(toname):
		return api.ErrBadName
	case a == 0:
		return api.ErrNoEnt
	case a == b:
		return api.OK
	case kindOf(st, a) == 2 && upFrom(st, todir, a):
		return api.ErrBelow
	case b != 0 && kindOf(st, a) == 2 && kindOf(st, b) == 1:
		return api.ErrNotDir
	case b != 0 && kindOf(st, a) == 1 && kindOf(st, b) == 2:
		return api.ErrIsDir
	case b != 0 && kindOf(st, b) == 2 && len(nodeOf(st, b).Names) > 0:
		return api.ErrNotEmpty
	}
	goes, comes := api.Entry{Kind: 4, Name: name}, api.Entry{Kind: 3, Name: toname, Ino: a}
	edits := []api.Edit{{Ino: dir, Entries: []api.Entry{goes}}}
	if dir != todir {
		edits = append(edits, api.Edit{Ino: todir})
	}
	last := &edits[len(edits)-1]
	if b != 0 {
		last.Entries = append(last.Entries, api.Entry{Kind: 4, Name: toname})
	}
	last.Entries = append(last.Entries, comes)
	if b != 0 {
		edits = append(edits, api.Edit{Ino: b, Links: loses(nodeOf(st, b))})
	}
	return w.v.Do(edits)
}

// alike: whether a device is what the twin's is, and its volume too.
func (w twin) alike(t *testing.T, what string, d *pmem.Device, v *volume.Volume) {
	t.Helper()
	if d.Steps() != w.d.Steps() || !bytes.Equal(d.View(), w.d.View()) || !reflect.DeepEqual(d.Doubts(), w.d.Doubts()) {
		t.Fatalf("%s: %d steps, doubts %v; want %d, %v", what, d.Steps(), d.Doubts(), w.d.Steps(), w.d.Doubts())
	}
	if !reflect.DeepEqual(v.State(), w.v.State()) {
		t.Fatalf("%s: the state is\n%+v\nthe twin's is\n%+v", what, v.State(), w.v.State())
	}
}

// entry: a name of a directory.
type entry struct {
	dir  int
	name string
}

// namesOf: all names of a state, and what they stand for.
func namesOf(st api.State) map[entry]int {
	all := map[entry]int{}
	for _, n := range st.Nodes {
		for _, d := range n.Names {
			all[entry{n.Ino, d.Name}] = d.Ino
		}
	}
	return all
}

// changed: the names that differ from one state to another, in order.
func changed(was, now api.State) []entry {
	a, b := namesOf(was), namesOf(now)
	var list []entry
	for k, ino := range a {
		if b[k] != ino {
			list = append(list, k)
		}
	}
	for k := range b {
		if a[k] == 0 {
			list = append(list, k)
		}
	}
	slices.SortFunc(list, func(x, y entry) int {
		return 4*(x.dir-y.dir) + bytes.Compare([]byte(x.name), []byte(y.name))
	})
	return list
}
