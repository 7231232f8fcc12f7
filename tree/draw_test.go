package tree_test

import (
	"hash/crc32"
	"math/rand"
	"reflect"
	"slices"
	"testing"

	"furrow/api"
	"furrow/files"
	"furrow/volume"
)

// leaf: a file or a directory of a plain tree.
type leaf struct {
	kind  int
	names map[string]int
	text  string
	pages map[int]bool
}

// plain: a plain tree: what the numbers stand for.
type plain map[int]*leaf

func newPlain() plain { return plain{1: {kind: api.KindDir, names: map[string]int{}}} }

// links: how many names stand for a number.
func (p plain) links(ino int) int {
	n := 0
	for _, l := range p {
		for _, i := range l.names {
			if i == ino {
				n++
			}
		}
	}
	return n
}

// loses: a name goes, and with its last one what it stood for.
func (p plain) loses(dir int, name string) {
	ino := p[dir].names[name]
	delete(p[dir].names, name)
	if p.links(ino) == 0 {
		delete(p, ino)
	}
}

// takes: a call that answered OK.
func (p plain) takes(c call, n int) {
	switch c.op {
	case "make":
		p[n] = &leaf{kind: c.ino, names: map[string]int{}, pages: map[int]bool{}}
		p[c.dir].names[c.name] = n
	case "link":
		p[c.dir].names[c.name] = c.ino
	case "unlink", "rmdir":
		p.loses(c.dir, c.name)
	case "move":
		a := p[c.dir].names[c.name]
		if p[c.ino].names[c.toname] == a {
			return
		}
		delete(p[c.dir].names, c.name)
		if p[c.ino].names[c.toname] != 0 {
			p.loses(c.ino, c.toname)
		}
		p[c.ino].names[c.toname] = a
	}
}

func (p plain) stat(ino int) api.Stat {
	l := p[ino]
	if l.kind == api.KindDir {
		return api.Stat{Ino: ino, Kind: l.kind, Size: len(l.names), Links: 1}
	}
	return api.Stat{Ino: ino, Kind: l.kind, Size: len(l.text), Links: p.links(ino), Pages: len(l.pages)}
}

// items: what a walk must tell of a number and of all that is in it.
func (p plain) items(path string, ino int) []api.Item {
	l := p[ino]
	i := api.Item{Path: path, Stat: p.stat(ino)}
	if l.kind == api.KindFile {
		i.Sum = crc32.ChecksumIEEE([]byte(l.text))
	}
	list := []api.Item{i}
	var names []string
	for name := range l.names {
		names = append(names, name)
	}
	slices.Sort(names)
	for _, name := range names {
		sub := path + "/" + name
		if path == "/" {
			sub = "/" + name
		}
		list = append(list, p.items(sub, l.names[name])...)
	}
	return list
}

// is: whether the volume's tree is the plain one.
func (p plain) is(t *testing.T, v *volume.Volume) {
	t.Helper()
	if got, want := walked(t, v), p.items("/", 1); !reflect.DeepEqual(got, want) {
		t.Fatalf("Walk tells\n%+v\nwant\n%+v", got, want)
	}
	for ino := range p {
		stats(t, v, p.stat(ino))
	}
}

// numbers: all numbers of a kind, rising.
func (p plain) numbers(kind int) []int {
	var list []int
	for ino, l := range p {
		if l.kind == kind {
			list = append(list, ino)
		}
	}
	slices.Sort(list)
	return list
}

// drawnName: a name of a directory, or one of few others.
func drawnName(r *rand.Rand, p plain, dir int) string {
	if l := p[dir]; l != nil && len(l.names) > 0 && r.Intn(3) > 0 {
		var names []string
		for name := range l.names {
			names = append(names, name)
		}
		slices.Sort(names)
		return oneOf(r, names)
	}
	if r.Intn(30) == 0 {
		return oneOf(r, badNames)
	}
	return string([]byte{byte('a' + r.Intn(6)), "\xff!/az0"[r.Intn(6)]}[:1+r.Intn(2)])
}

func drawnCall(r *rand.Rand, p plain) call {
	number := func(kind int) int {
		l := p.numbers(kind)
		if r.Intn(25) == 0 || len(l) == 0 {
			return oneOf(r, append([]int{1, 2, 3, 4, 5, 6, 7, 8, 9, 96}, wild...))
		}
		return oneOf(r, l)
	}
	c := call{op: oneOf(r, []string{"make", "make", "make", "link", "unlink", "rmdir", "move", "move", "move"}), dir: number(api.KindDir)}
	c.name = drawnName(r, p, c.dir)
	switch c.op {
	case "make":
		c.ino = 1 + r.Intn(2)
		if r.Intn(30) == 0 {
			c.ino = oneOf(r, wild)
		}
	case "link":
		c.ino = number(api.KindFile)
	case "move":
		c.ino = number(api.KindDir)
		c.toname = drawnName(r, p, c.ino)
	}
	return c
}

// drawnBytes: a file grows or is cut, here and in the twin.
func drawnBytes(t *testing.T, r *rand.Rand, v *volume.Volume, w twin, p plain) {
	t.Helper()
	l := p.numbers(api.KindFile)
	if len(l) == 0 {
		return
	}
	ino := oneOf(r, l)
	f := p[ino]
	if r.Intn(3) == 0 && len(f.text) > 0 {
		size := r.Intn(len(f.text))
		if files.Truncate(v, ino, size) == api.OK {
			files.Truncate(w.v, ino, size)
			f.text = f.text[:size]
			for page := range f.pages {
				if 512*page >= size {
					delete(f.pages, page)
				}
			}
		}
		return
	}
	off, data := r.Intn(3000), string([]byte{1, byte(r.Intn(256)), 2})
	if files.Write(v, ino, off, data) == api.OK {
		files.Write(w.v, ino, off, data)
		b := append([]byte(f.text), make([]byte, max(0, off+3-len(f.text)))...)
		copy(b[off:], data)
		f.text = string(b)
		f.pages[off/512] = true
		f.pages[(off+2)/512] = true
	}
}

// session: drawn calls on a fresh volume, held against a plain tree and against the edits of the chapter; the volume is mounted anew now and then. How often each answer came is counted.
func session(t *testing.T, r *rand.Rand, s api.Super, calls int, seen map[api.Errno]int) {
	t.Helper()
	d, v := fresh(t, s)
	w := twinOf(t, d)
	p := newPlain()
	for i := range calls {
		if r.Intn(5) == 0 {
			drawnBytes(t, r, v, w, p)
		}
		one := drawnCall(r, p)
		n, e := one.beside(t, d, v, w)
		seen[e]++
		if e == api.OK {
			p.takes(one, n)
		}
		if i%10 == 0 {
			p.is(t, v)
		}
		if i%300 == 299 {
			v, w.v = mounts(t, d), mounts(t, w.d)
		}
	}
	p.is(t, v)
	p.is(t, mounts(t, load(t, d.View())))
	if len(d.Doubts()) != 0 || !reflect.DeepEqual(replayed(t, d.View()), v.State()) {
		t.Errorf("%v: the device means another state", s)
	}
}

// TestT1PlainTree: sessions on all sorts of devices; a tight one is soon full for good, so that it has many short ones.
func TestT1PlainTree(t *testing.T) {
	r := chance()
	for _, c := range []struct {
		s               api.Super
		sessions, calls int
		full            []api.Errno
	}{
		{small, 4, 600, []api.Errno{api.ErrNoSpace, api.ErrNoInodes}}, {tight, 40, 80, []api.Errno{api.ErrNoSpace}},
		{middling, 2, 1200, []api.Errno{api.ErrNoInodes}}, {large, 1, 600, nil},
	} {
		seen := map[api.Errno]int{}
		for range c.sessions {
			session(t, r, c.s, c.calls, seen)
		}
		for _, e := range append(c.full, api.OK, api.ErrEdit, api.ErrExist, api.ErrNoEnt, api.ErrIsDir, api.ErrNotDir, api.ErrNotEmpty, api.ErrBelow, api.ErrBadName, api.ErrNoFile) {
			if seen[e] == 0 {
				t.Errorf("%v: no call answered %v: %v", c.s, e, seen)
			}
		}
		if seen[api.OK] < 100 {
			t.Errorf("%v: only %d calls were done", c.s, seen[api.OK])
		}
	}
}
