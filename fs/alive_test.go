package fs_test

import (
	"math/rand"
	"slices"
	"strconv"
	"strings"
	"testing"

	"furrow/api"
	"furrow/fs"
	"furrow/pmem"
)

// removeAll: everything but the root is removed, in any order in which it can be. Whether it went: a device without a free page may refuse it.
func removeAll(t *testing.T, r *rand.Rand, f *fs.FS) bool {
	t.Helper()
	for {
		items := walked(t, f)[1:]
		if len(items) == 0 {
			return true
		}
		r.Shuffle(len(items), func(i, j int) { items[i], items[j] = items[j], items[i] })
		went := slices.ContainsFunc(items, func(i api.Item) bool {
			o := op{name: "unlink", a: i.Path}
			if i.Stat.Kind == api.KindDir {
				o.name = "rmdir"
			}
			switch e := asks(t, f, o).e; e {
			case api.OK:
				return true
			case api.ErrNotEmpty, api.ErrNoSpace, api.ErrPathLong:
			default:
				t.Fatalf("%v = %v", o, e)
			}
			return false
		})
		if !went {
			return false
		}
	}
}

// bare: whether the root is all that is there, and everything else is free, by what is told and by what the bytes mean.
func bare(t *testing.T, s api.Super, d *pmem.Device, f *fs.FS) {
	t.Helper()
	st := replayed(t, d.View())
	if len(st.Nodes) != 1 || len(st.Nodes[0].Names) != 0 {
		t.Fatalf("%v: %+v", s, st)
	}
	free := st.Shape.Pages - st.Shape.Data - len(st.Nodes[0].Log)
	if i := informed(t, f); i != (api.Info{Pages: s.Pages, FreePages: free, Inodes: s.Inodes, FreeInodes: s.Inodes - 1}) || freeOf(t, d) != free {
		t.Fatalf("%v: Info tells %+v, and %d pages must be free", s, i, free)
	}
	isPlain(t, f, newPlain(s))
}

// TestT7Alive: again and again a tree is drawn and removed; then all is free but the root and its log.
func TestT7Alive(t *testing.T) {
	r := chance()
	for _, s := range []api.Super{small, middling, tight, large} {
		d, f := fresh(t, s)
		p, removed, logs := newPlain(s), 0, map[int]bool{}
		for round := range 12 {
			for range 60 {
				o := drawnOp(r, p)
				if out := p.asked(o); asks(t, f, o).e == api.OK && out.change != nil {
					out.change()
				}
			}
			if !removeAll(t, r, f) {
				d, f = fresh(t, s) // it is full for good
				p = newPlain(s)
				continue
			}
			bare(t, s, d, f)
			removed++
			logs[len(replayed(t, d.View()).Nodes[0].Log)] = true
			p = newPlain(s)
			if round%3 == 2 {
				did(t, f, op{name: "unmount"})
				f = mounts(t, d)
				bare(t, s, d, f)
			}
		}
		if removed < 4 || len(logs) < 2 {
			t.Errorf("%v: %d trees were removed, with root's logs of %v pages", s, removed, logs)
		}
	}
}

// filled: every inode is a file's, and no page is free; all files but /spare have as many pages, or one less.
func filled(t *testing.T, s api.Super) (*pmem.Device, *fs.FS) {
	t.Helper()
	d, f := fresh(t, s)
	did(t, f, create("/spare"), write("/spare", 0, "x"))
	var names []string
	for i := 3; i <= s.Inodes; i++ {
		names = append(names, "/"+strconv.Itoa(i))
		did(t, f, create(names[len(names)-1]))
	}
	refuses(t, d, f, api.ErrNoInodes, create("/new"), mkdir("/new"))
	for off := 0; freeOf(t, d) > 0; off += 512 {
		for _, name := range names {
			if e := asks(t, f, write(name, off, "x")).e; e != api.OK && e != api.ErrNoSpace {
				t.Fatalf("Write = %v", e)
			}
		}
	}
	return d, f
}

// TestT7Full: a device that was filled to its last page and inode is as empty as ever when all is removed.
func TestT7Full(t *testing.T) {
	r := chance()
	for _, s := range []api.Super{small, middling, large} {
		d, f := filled(t, s)
		did(t, f, truncate("/spare", 0)) // the removal wants a page for the root's log, maybe
		if !removeAll(t, r, f) {
			t.Fatalf("%v: it can't be removed: %+v", s, walked(t, f))
		}
		bare(t, s, d, f)
	}
}

// TestT7Deep: a tree that stands deeper than any text reaches can be moved back, and removed.
func TestT7Deep(t *testing.T) {
	r := chance()
	d, f := fresh(t, middling)
	p := newPlain(middling)
	long := func(n int) string { return strings.Repeat("/"+strings.Repeat("n", 28), n) }
	var ops []op
	for n := 1; n <= 6; n++ {
		ops = append(ops, mkdir(long(n)))
	}
	ops = append(ops, mkdir("/t"), mkdir("/t"+long(1)), mkdir("/t"+long(2)), create("/t"+long(2)+"/f"), write("/t"+long(2)+"/f", 0, "deep"), rename("/t", long(6)+"/t"))
	for _, o := range ops {
		did(t, f, o)
		p.does(o)
	}
	items := walked(t, f)
	if last := items[len(items)-1]; last.Path != long(6)+"/t"+long(2)+"/f" || last.Stat.Size != 4 || len(last.Path) <= api.MaxPath {
		t.Errorf("the last item is %+v", last)
	}
	isPlain(t, f, p)
	refuses(t, d, f, api.ErrPathLong, stat(long(6)+"/t"+long(2)))
	did(t, f, rename(long(6)+"/t", "/t"))
	if !removeAll(t, r, f) {
		t.Fatal("it can't be removed")
	}
	bare(t, middling, d, f)
}
