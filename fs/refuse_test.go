package fs_test

import (
	"errors"
	"strings"
	"testing"

	"furrow/api"
	"furrow/fs"
)

// TestP18_1Errors: each method's error tells its operation, the path as it was handed in, and a reason that errors.Is finds. (What told asks holds of every call of these tests.)
func TestP18_1Errors(t *testing.T) {
	d, f, _ := furnished(t)
	ops := append(withPaths("//f/../x//y/", "/x/z"), create("/f"), write("/f", -1, ""), op{name: "unmount"}, op{name: "unmount"}, op{name: "walk"}, op{name: "info"}, stat("/f"))
	seen := map[string]bool{}
	for _, o := range ops {
		a, err := o.on(f)
		if o.name == "unmount" && !seen[o.name] {
			seen[o.name] = true
			continue
		}
		seen[o.name] = true
		e := told(t, o, a, err)
		if e == api.OK || !errors.Is(err, e) || errors.Is(err, api.OK) || errors.Is(err, api.ErrCorrupt) {
			t.Errorf("%v = %v", o, err)
		}
		if want := o.name + ` "` + o.a + `": ` + e.Error(); err.Error() != want {
			t.Errorf("%v is told as %s; want %s", o, err, want)
		}
		if inner := errors.Unwrap(err); inner != error(e) || errors.Unwrap(inner) != nil {
			t.Errorf("%v wraps %v", o, inner)
		}
	}
	if len(seen) != 14 {
		t.Errorf("%d of the 14 operations were asked: %v", len(seen), seen)
	}
	if len(d.Doubts()) != 0 {
		t.Error("there are doubts")
	}
}

// TestP18_1Path: the path of an error is the text just as it was handed in, of two the first, whatever it is.
func TestP18_1Path(t *testing.T) {
	d, f, _ := furnished(t)
	for _, c := range oddTexts {
		refuses(t, d, f, c.e, withPaths(c.text, "/new")...)
		refuses(t, d, f, c.e, rename("/f", c.text), link("/f", c.text))
		_, err := f.Stat(c.text)
		var p *api.PathError
		if !errors.As(err, &p) || p.Path != c.text || p.Op != "stat" {
			t.Errorf("Stat(%.40q): %v", c.text, err)
		}
	}
}

// TestP18_1Done: what is done answers a nil error, and no pointer in it.
func TestP18_1Done(t *testing.T) {
	_, f := fresh(t, middling)
	list := append(furniture(), read("/f", 0, 9), truncate("/f", 2), truncate("/f", 2), stat("/f"), readdir("/"), rename("/f", "/a/h"), rename("/f", "/x"), unlink("/x"), rmdir("/e"), write("/a/g", 0, ""), op{name: "walk"}, op{name: "info"}, op{name: "unmount"})
	for _, o := range list {
		if _, err := o.on(f); err != nil {
			t.Errorf("%v = %T %v", o, err, err)
		}
	}
}

// TestP18_2Closed: a closed one answers ErrClosed, whatever else is wrong.
func TestP18_2Closed(t *testing.T) {
	d, f, _ := furnished(t)
	did(t, f, op{name: "unmount"})
	closed(t, "unmounted", d, f)

	d, f, _ = furnished(t)
	d.Arm(0)
	refuses(t, d, f, api.ErrDead, create("/new"))
	closed(t, "dead", d, f)
}

// TestP18_2Texts: the texts are asked ahead of all else, the first one ahead of the second.
func TestP18_2Texts(t *testing.T) {
	d, f, _ := furnished(t)
	for _, c := range oddTexts {
		for _, other := range []string{"/", "/x/y", "/f/y", "/f/", "/new", "/a/..", "/e"} {
			refuses(t, d, f, c.e, rename(c.text, other), rename(other, c.text), link(c.text, other), link(other, c.text))
		}
		for _, second := range oddTexts {
			refuses(t, d, f, c.e, rename(c.text, second.text), link(c.text, second.text))
		}
		for _, n := range wild {
			refuses(t, d, f, c.e, read(c.text, n, n), write(c.text, n, strings.Repeat("x", 5000)), truncate(c.text, n))
		}
	}
}

// TestP18_2Numbers: numbers and data are asked behind the path.
func TestP18_2Numbers(t *testing.T) {
	d, f, _ := furnished(t)
	big := strings.Repeat("x", 4097)
	for _, n := range append([]int{0, 5, 262144}, wild...) {
		for _, c := range []struct {
			text string
			e    api.Errno
		}{{"/x", api.ErrNoEnt}, {"/x/", api.ErrNoEnt}, {"/f/", api.ErrNotDir}, {"/f/y", api.ErrNotDir}, {"/f/..", api.ErrNotDir}, {"/", api.ErrIsDir}, {"/a", api.ErrIsDir}, {"/a/", api.ErrIsDir}, {"/a/..", api.ErrIsDir}} {
			refuses(t, d, f, c.e, read(c.text, n, 1), read(c.text, 0, n), read(c.text, n, n), write(c.text, n, ""), write(c.text, n, big), truncate(c.text, n))
		}
	}
	refuses(t, d, f, api.ErrOffset, read("/f", -1, -1), read("/f", -1, 4097), write("/f", -1, big), truncate("/f", -1))
	refuses(t, d, f, api.ErrData, read("/f", 0, -1), read("/f", 1<<62, 4097), write("/f", 0, big), write("/f", 262144, big))
	refuses(t, d, f, api.ErrFBig, write("/f", 262144, "x"), write("/f", 262145, ""), truncate("/f", 262145))
}

// everyPath: paths of all sorts over the furniture: what is there and what isn't, straight and round, with a slash behind and without.
func everyPath() []string {
	var list []string
	for _, s := range []string{"/a", "/a/g", "/a/h", "/a/s", "/a/s/t", "/a/s/t/u", "/d", "/d/k", "/e", "/e/n", "/f", "/n", "/x/n", "/f/n", "/a/s/.", "/a/..", "/f/..", "/x/..", "/x/.", "/a/../d/k", "/./e", "//a//s", "/e/../../f", "/a/s/../g", "/f/../a"} {
		list = append(list, s, s+"/")
	}
	return append(list, "/", "//", "/..")
}

// TestP18_4To18_11: each method on each path, and rename and link on each two of them, on the furniture: what a plain tree answers by the chapter's order, and what becomes of the device.
func TestP18_4To18_11(t *testing.T) {
	d, _, _ := furnished(t)
	image := d.View()
	seen := map[string]map[api.Errno]int{}
	b := besideOf(t, image, grown(middling, furniture()))
	try := func(o op) {
		e := b.does(t, o)
		if seen[o.name] == nil {
			seen[o.name] = map[api.Errno]int{}
		}
		seen[o.name][e]++
		if e == api.OK && o.cost() > 0 {
			b = besideOf(t, image, grown(middling, furniture()))
		}
	}
	for _, a := range everyPath() {
		for _, o := range withPaths(a, "/n") {
			try(o)
		}
		try(truncate(a, 3))
		for _, to := range everyPath() {
			try(rename(a, to))
			try(link(a, to))
		}
	}
	for name, want := range map[string][]api.Errno{
		"create": {api.OK, api.ErrNotDir, api.ErrPathEnd, api.ErrNoEnt, api.ErrExist}, "mkdir": {api.OK, api.ErrNotDir, api.ErrPathEnd, api.ErrNoEnt, api.ErrExist},
		"unlink": {api.OK, api.ErrNotDir, api.ErrPathEnd, api.ErrNoEnt, api.ErrIsDir}, "rmdir": {api.OK, api.ErrNotDir, api.ErrPathEnd, api.ErrNoEnt, api.ErrNotEmpty},
		"rename": {api.OK, api.ErrNotDir, api.ErrPathEnd, api.ErrNoEnt, api.ErrIsDir, api.ErrNotEmpty, api.ErrBelow}, "link": {api.OK, api.ErrNotDir, api.ErrPathEnd, api.ErrNoEnt, api.ErrIsDir, api.ErrExist},
		"read": {api.OK, api.ErrNotDir, api.ErrNoEnt, api.ErrIsDir}, "write": {api.OK, api.ErrNotDir, api.ErrNoEnt, api.ErrIsDir}, "truncate": {api.OK, api.ErrNotDir, api.ErrNoEnt, api.ErrIsDir},
		"stat": {api.OK, api.ErrNotDir, api.ErrNoEnt}, "readdir": {api.OK, api.ErrNotDir, api.ErrNoEnt},
	} {
		for _, e := range want {
			if seen[name][e] == 0 {
				t.Errorf("%s never answered %v: %v", name, e, seen[name])
			}
		}
	}
}

// TestP18_3Mkfs: Mkfs and Mount answer what the volume's Format and Mount answer, bare.
func TestP18_3Mkfs(t *testing.T) {
	d := blank(t, 24)
	for _, s := range []api.Super{{}, {Pages: 25, Inodes: 8, Cores: 1}, {Pages: 24, Inodes: 9, Cores: 1}, {Pages: 24, Inodes: 8}, {Pages: -24, Inodes: -8, Cores: -1}, {Pages: 1 << 62, Inodes: 1 << 62, Cores: 1 << 62}} {
		still(t, "Mkfs", d, func() {
			if err := fs.Mkfs(d, s); err != error(api.ErrShape) {
				t.Errorf("Mkfs(%v) = %T %v", s, err, err)
			}
		})
	}
	if err := fs.Mkfs(d, small); err != nil {
		t.Errorf("Mkfs = %T %v", err, err)
	}
	isPlain(t, mounts(t, d), newPlain(small))
	d.Arm(0)
	if err := fs.Mkfs(d, small); err != error(api.ErrDead) {
		t.Errorf("Mkfs of a dead device = %T %v", err, err)
	}
}

func TestP18_3Mount(t *testing.T) {
	d := blank(t, 24)
	for _, workers := range []int{0, -1, 65, 1 << 62, -1 << 63} {
		if f, err := fs.Mount(d, workers, nil); f != nil || err != error(api.ErrWorkers) {
			t.Errorf("Mount by %d = %v, %T %v", workers, f, err, err)
		}
	}
	f, err := fs.Mount(d, 1, nil)
	if c, is := err.(*api.CorruptError); f != nil || !is || *c != (api.CorruptError{Reason: api.ErrSuper}) || !errors.Is(err, api.ErrCorrupt) {
		t.Errorf("Mount of nothing = %v, %T %v", f, err, err)
	}
	if d.Steps() != 0 {
		t.Error("what is refused did steps")
	}
	d, g, p := furnished(t)
	did(t, g, op{name: "unmount"})
	dead := load(t, d.View())
	dead.Arm(1)
	if f, err := fs.Mount(dead, 1, nil); f != nil || err != error(api.ErrDead) { // its clean word can't be taken away
		t.Errorf("Mount of a dying device = %v, %T %v", f, err, err)
	}
	for workers := 1; workers <= 64; workers += 9 {
		f, err := fs.Mount(load(t, d.View()), workers, []int{5, -5, 1 << 62, workers})
		if f == nil || err != nil {
			t.Fatalf("Mount by %d: %v", workers, err)
		}
		isPlain(t, f, p)
	}
}

// TestP18_3Why: it is told from the mount on, the same always.
func TestP18_3Why(t *testing.T) {
	d, f := fresh(t, small)
	for _, want := range []api.Errno{api.ErrAbsent, api.OK, api.OK} { // the record of each unmount is taken
		did(t, f, create("/f"), unlink("/f"))
		if f.Why() != want {
			t.Errorf("Why = %v; want %v", f.Why(), want)
		}
		did(t, f, op{name: "unmount"})
		if f.Why() != want {
			t.Errorf("behind Unmount Why = %v; want %v", f.Why(), want)
		}
		f = mounts(t, d)
	}
	d.Arm(2)
	if e := asks(t, f, create("/f")).e; e != api.ErrDead || f.Why() != api.OK {
		t.Errorf("behind %v Why = %v", e, f.Why())
	}
}

// TestP18_12Info: what Walk and Info tell, and that they tell nothing of a closed one.
func TestP18_12Info(t *testing.T) {
	for _, s := range []api.Super{small, middling, tight, large} {
		d, f := fresh(t, s)
		did(t, f, mkdir("/a"), create("/a/f"), write("/a/f", 0, "x"))
		if i := informed(t, f); i != (api.Info{Pages: s.Pages, FreePages: freeOf(t, d), Inodes: s.Inodes, FreeInodes: s.Inodes - 3}) {
			t.Errorf("%v: Info tells %+v", s, i)
		}
		isPlain(t, f, grown(s, []op{mkdir("/a"), create("/a/f"), write("/a/f", 0, "x")}))
		did(t, f, op{name: "unmount"})
		refuses(t, d, f, api.ErrClosed, op{name: "walk"}, op{name: "info"})
	}
}

// TestP18_13Unmount: behind it, and behind a second one, everything answers ErrClosed.
func TestP18_13Unmount(t *testing.T) {
	d, f, p := furnished(t)
	did(t, f, op{name: "unmount"})
	for range 3 {
		refuses(t, d, f, api.ErrClosed, op{name: "unmount"})
		closed(t, "unmounted", d, f)
	}
	g := mounts(t, d)
	if g.Why() != api.OK {
		t.Errorf("Why = %v", g.Why())
	}
	isPlain(t, g, p)
	closed(t, "unmounted, and mounted anew by another", d, f)

	d.Arm(1)
	if e := asks(t, g, op{name: "unmount"}).e; e != api.ErrDead {
		t.Errorf("Unmount of a dying device = %v", e)
	}
	closed(t, "dead", d, g)
}
