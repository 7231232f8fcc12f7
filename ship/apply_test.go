package ship_test

import (
	"math"
	"math/rand"
	"reflect"
	"strings"
	"testing"

	"furrow/api"
	"furrow/fs"
	"furrow/ship"
)

// byHand: the steps played one by one, in the chapter's words; how many were, and the error that ended it.
func byHand(f *fs.FS, list []api.Step) (int, error) {
	calls := map[int]func(s api.Step) error{
		4:  func(s api.Step) error { return f.Create(s.A) },
		5:  func(s api.Step) error { return f.Mkdir(s.A) },
		6:  func(s api.Step) error { return f.Unlink(s.A) },
		7:  func(s api.Step) error { return f.Rmdir(s.A) },
		9:  func(s api.Step) error { return f.Link(s.A, s.B) },
		11: func(s api.Step) error { return f.Write(s.A, s.N, s.B) },
		12: func(s api.Step) error { return f.Truncate(s.A, s.N) },
	}
	done := 0
	for _, s := range list {
		call := calls[s.Kind]
		if call == nil {
			return done, api.ErrStepKind
		}
		if err := call(s); err != nil {
			return done, err
		}
		done++
	}
	return done, nil
}

// twins: whether Apply answers and does what is done by hand to a device of the same bytes; what it answered.
func twins(t *testing.T, image []byte, list []api.Step, arm int) (int, error) {
	t.Helper()
	d, twin := load(t, image), load(t, image)
	f, g := mounts(t, d), mounts(t, twin)
	if arm >= 0 {
		d.Arm(arm)
		twin.Arm(arm)
	}
	n, err := ship.Apply(f, list)
	want, why := byHand(g, list)
	if n != want || !reflect.DeepEqual(err, why) {
		t.Fatalf("P23.4: Apply = %d, %v; by hand %d, %v of%s", n, err, want, why, told(list))
	}
	if !alike(d, twin) {
		t.Fatalf("P23.4: Apply has done other things to the device than is done by hand:%s", told(list))
	}
	return n, err
}

// furnished: an image with a few files and directories.
func furnished(t *testing.T, s api.Super) []byte {
	t.Helper()
	d, f := fresh(t, s)
	did(t, f.Mkdir("/a"), f.Mkdir("/a/b"), f.Create("/a/a"), f.Write("/a/a", 0, "bytes"), f.Create("/b"), f.Write("/b", 700, "more"), f.Link("/b", "/a/c"), f.Unmount())
	return d.View()
}

// P23.4: drawn steps, against the same calls by hand: answers, bytes, steps and doubts. Each reason comes about.
func TestP23_4Drawn(t *testing.T) {
	r := chance()
	images := [][]byte{furnished(t, small), furnished(t, middling)}
	seen := map[error]int{}
	for range 3000 {
		_, err := twins(t, pick(r, images...), anySteps(r, 30), -1)
		if p, is := err.(*api.PathError); is {
			err = p.Err
		}
		seen[err]++
	}
	for _, e := range []error{nil, api.ErrStepKind, api.ErrExist, api.ErrNoEnt, api.ErrNotDir, api.ErrIsDir, api.ErrNotEmpty, api.ErrOffset, api.ErrData, api.ErrFBig, api.ErrPathForm, api.ErrPathEnd} {
		if seen[e] == 0 {
			t.Errorf("no list ended with %v: %v", e, seen)
		}
	}
}

// P23.4: drawn ways from one tree to another, on devices that go dead behind any step, and such as don't.
func TestP23_4Dead(t *testing.T) {
	r := chance()
	dead := 0
	for range 400 {
		from, to := drawnPair(r, 8, 1500)
		d, f := holding(t, middling, made(t, from...))
		did(t, f.Unmount())
		list := planned(t, made(t, from...), made(t, to...))
		n, err := twins(t, d.View(), list, r.Intn(200))
		if err == nil {
			continue
		}
		dead++
		if p, is := err.(*api.PathError); !is || p.Err != api.ErrDead || p.Path != list[n].A {
			t.Fatalf("P23.4: behind %d steps: %v", n, err)
		}
	}
	if dead < 50 {
		t.Errorf("only %d went dead", dead)
	}
}

// P23.4: each kind's method, and where it is refused.
func TestP23_4Kinds(t *testing.T) {
	_, f := fresh(t, small)
	applied(t, "each kind", f, []api.Step{mkdir("/d"), create("/d/f"), write("/d/f", 510, "abcd"), truncate("/d/f", 513), linked("/d/f", "/g"), create("/h"), unlink("/h"), mkdir("/e"), rmdir("/e")})
	is(t, "each kind", f, made(t, dir("d"), file("d/f", zeros(510)+"abc"), link("g", "d/f")))
	one := func(s api.Step, op string, why api.Errno) {
		t.Helper()
		applyTells(t, f, []api.Step{mkdir("/k"), rmdir("/k"), s, create("/never")}, 2, op, s.A, why)
	}
	one(create("/d"), "create", api.ErrExist)
	one(create("d"), "create", api.ErrPathForm)
	one(mkdir("/"), "mkdir", api.ErrPathEnd)
	one(unlink("/d"), "unlink", api.ErrIsDir)
	one(unlink("/q"), "unlink", api.ErrNoEnt)
	one(rmdir("/g"), "rmdir", api.ErrNotDir)
	one(rmdir("/d"), "rmdir", api.ErrNotEmpty)
	one(linked("/d", "/l"), "link", api.ErrIsDir)
	one(linked("/d/f", "/g"), "link", api.ErrExist)
	one(write("/d", 0, "x"), "write", api.ErrIsDir)
	one(write("/g", -1, "x"), "write", api.ErrOffset)
	one(write("/g", 0, strings.Repeat("x", 4097)), "write", api.ErrData)
	one(write("/g", api.MaxSize, "x"), "write", api.ErrFBig)
	one(truncate("/g", -1), "truncate", api.ErrOffset)
	one(truncate("/g", api.MaxSize+1), "truncate", api.ErrFBig)
	one(truncate("/g/", 0), "truncate", api.ErrNotDir)
	is(t, "refused", f, made(t, dir("d"), file("d/f", zeros(510)+"abc"), link("g", "d/f")))
}

// P23.4: kinds that aren't played: nothing is asked of the file system, whatever the other fields are, and whether it is closed or not.
func TestP23_4OtherKinds(t *testing.T) {
	d, f := fresh(t, small)
	did(t, f.Create("/a"))
	closed, g := fresh(t, small)
	did(t, g.Unmount())
	plays := map[int]bool{4: true, 5: true, 6: true, 7: true, 9: true, 11: true, 12: true}
	kinds := []int{math.MinInt, math.MinInt + 4, math.MaxInt, -4, -11, 1 << 32, 1<<32 + 4, 256 + 4, 1<<16 + 5, 1 << 62}
	for k := -30; k < 60; k++ {
		kinds = append(kinds, k)
	}
	for _, k := range kinds {
		if plays[k] {
			continue
		}
		s := api.Step{Kind: k, A: "/a", B: "/b", N: 1, M: 1, K: 1, List: []int{1}}
		still(t, "a step of no kind", d, func() { applyRefuses(t, f, []api.Step{s, create("/x")}, 0) })
		still(t, "a step of no kind", closed, func() { applyRefuses(t, g, []api.Step{{Kind: k}}, 0) })
		applied(t, "a step of a kind", f, []api.Step{create("/k")})
		applyRefuses(t, f, []api.Step{unlink("/k"), s, s}, 1)
	}
}

// P23.4: fields that a kind doesn't have aren't looked at.
func TestP23_4OtherFields(t *testing.T) {
	_, f := fresh(t, small)
	list := []api.Step{mkdir("/d"), create("/d/f"), write("/d/f", 3, "abc"), truncate("/d/f", 5), linked("/d/f", "/g"), create("/h"), unlink("/h"), mkdir("/e"), rmdir("/e")}
	for k, s := range list {
		s.M, s.K, s.List = math.MinInt, math.MaxInt, []int{-1, 7}
		if s.Kind != api.StepWrite && s.Kind != api.StepTruncate {
			s.N = math.MinInt
		}
		if s.Kind != api.StepWrite && s.Kind != api.StepLink {
			s.B = "\x00 no path"
		}
		list[k] = s
	}
	if n := ship.Room(list); n != 1+1+3+2+1+1+1+1+1 {
		t.Errorf("P23.6: Room = %d", n)
	}
	applied(t, "other fields", f, list)
	is(t, "other fields", f, made(t, dir("d"), file("d/f", zeros(3)+"ab"), link("g", "d/f")))
}

// P23.4: a closed file system refuses the first step, but none and those of no kind.
func TestP23_4Closed(t *testing.T) {
	d, f := fresh(t, small)
	did(t, f.Unmount())
	still(t, "a closed one", d, func() {
		applied(t, "no steps to a closed one", f, nil)
		applied(t, "no steps to a closed one", f, []api.Step{})
		for _, s := range []api.Step{create(""), mkdir("/d"), unlink("x"), rmdir("/"), linked("/d", ""), write("", -1, ""), truncate("/", -1)} {
			applyTells(t, f, []api.Step{s, s}, 0, map[int]string{4: "create", 5: "mkdir", 6: "unlink", 7: "rmdir", 9: "link", 11: "write", 12: "truncate"}[s.Kind], s.A, api.ErrClosed)
		}
		applyRefuses(t, f, []api.Step{{Kind: 77}, create("/a")}, 0)
		applyTells(t, f, []api.Step{create("/a"), {Kind: 77}}, 0, "create", "/a", api.ErrClosed)
	})
}

// P23.4: behind its death a device's file system is closed.
func TestP23_4BehindDeath(t *testing.T) {
	d, f := fresh(t, small)
	did(t, f.Create("/a"))
	d.Arm(3)
	applyTells(t, f, []api.Step{mkdir("/d"), create("/d/f")}, 0, "mkdir", "/d", api.ErrDead)
	applyTells(t, f, []api.Step{unlink("/a")}, 0, "unlink", "/a", api.ErrClosed)
	applyRefuses(t, f, []api.Step{{}}, 0)
	applied(t, "no steps to a dead one", f, nil)
}

// P23.4: what is refused for want of pages or inodes ends it too, and what was done ahead stays.
func TestP23_4Full(t *testing.T) {
	_, f := fresh(t, small)
	var list []api.Step
	for _, name := range []string{"/a", "/b", "/c", "/d", "/e", "/f", "/g", "/h"} {
		list = append(list, create(name))
	}
	applyTells(t, f, list, 7, "create", "/h", api.ErrNoInodes)
	is(t, "no inodes", f, made(t, file("a", ""), file("b", ""), file("c", ""), file("d", ""), file("e", ""), file("f", ""), file("g", "")))
	list = []api.Step{write("/a", 0, strings.Repeat("x", 4096)), write("/b", 0, strings.Repeat("y", 4000)), write("/c", 0, "z")}
	applyTells(t, f, list, 2, "write", "/c", api.ErrNoSpace)
	is(t, "no pages", f, made(t, file("a", strings.Repeat("x", 4096)), file("b", strings.Repeat("y", 4000)), file("c", ""), file("d", ""), file("e", ""), file("f", ""), file("g", "")))
}

// grown changes a tree by drawn operations of all kinds, some of which are refused.
func grown(t *testing.T, r *rand.Rand, f *fs.FS, many int) {
	t.Helper()
	names := func() string {
		return pick(r, "", "", "/a", "/b", "/a/b", "/c") + "/" + pick(r, "a", "b", "c", "a.", "b-", "z")
	}
	for range many {
		p := names()
		switch r.Intn(9) {
		case 0:
			_ = f.Mkdir(p)
		case 1, 2:
			_ = f.Create(p)
		case 3, 4:
			_ = f.Write(p, pick(r, 0, 1, 510, 512, 1500, r.Intn(3000)), drawnBytes(r, 1100))
		case 5:
			_ = f.Truncate(p, pick(r, 0, 1, 511, 512, 513, r.Intn(4000)))
		case 6:
			_ = f.Link(p, names())
		case 7:
			_ = f.Rename(p, names())
		case 8:
			_ = pick(r, f.Unlink, f.Rmdir)(p)
		}
	}
}

// P23.5, T8: from trees that came about by any operations to drawn ones, and to such as other file systems have.
func TestP23_5Drawn(t *testing.T) {
	r := chance()
	for range 150 {
		_, f := fresh(t, large)
		for range 4 {
			grown(t, r, f, 60)
			from := packed(t, f)
			var to []byte
			if r.Intn(2) == 0 {
				_, g := holding(t, large, from)
				grown(t, r, g, 40)
				to = packed(t, g)
			} else {
				_, members := drawnPair(r, 15, 3000)
				to = made(t, members...)
			}
			list := planned(t, from, to)
			applied(t, "P23.5", f, list)
			is(t, "P23.5", f, to)
			if again := planned(t, packed(t, f), to); len(again) != 0 {
				t.Fatalf("P23.5: there is still a way to go:%s", told(again))
			}
		}
	}
}

// P23.5: there and back again, over a mount, and with every inode in use on both sides.
func TestP23_5Full(t *testing.T) {
	var files, dirs []api.Member
	for _, name := range []string{"a", "b", "c", "d", "e", "f", "g"} {
		files = append(files, file(name, name))
		dirs = append(dirs, dir(name))
	}
	d, f := holding(t, small, made(t, files...))
	for range 5 {
		applied(t, "to directories", f, planned(t, packed(t, f), made(t, dirs...)))
		is(t, "to directories", f, made(t, dirs...))
		did(t, f.Unmount())
		f = mounts(t, d)
		applied(t, "to files", f, planned(t, packed(t, f), made(t, files...)))
		is(t, "to files", f, made(t, files...))
	}
}

// P23.5: as many names as a file may have, all of them other ones.
func TestP23_5Links(t *testing.T) {
	linksOf := func(mark string) []api.Member {
		list := of(file("a", "x"))
		for k := range api.MaxLinks - 1 {
			list = append(list, link(mark+string(rune('a'+k/10))+string(rune('0'+k%10)), "a"))
		}
		return list
	}
	from, to := made(t, linksOf("l")...), made(t, linksOf("m")...)
	_, f := holding(t, large, from)
	list := planned(t, from, to)
	if len(list) != 2*(api.MaxLinks-1) {
		t.Errorf("P23.2: %d steps", len(list))
	}
	applied(t, "links", f, list)
	is(t, "links", f, to)
}

// P23.5: what was cut off a file doesn't come back: the bytes that it is lengthened by are zeros.
func TestP23_5BehindTheEnd(t *testing.T) {
	_, f := fresh(t, small)
	did(t, f.Create("/a"), f.Write("/a", 0, strings.Repeat("x", 1000)), f.Truncate("/a", 600))
	for _, text := range []string{strings.Repeat("x", 600) + zeros(300), strings.Repeat("x", 10), strings.Repeat("x", 10) + zeros(2000), strings.Repeat("x", 10) + zeros(2000) + "y", zeros(5), "", zeros(api.MaxSize)} {
		to := made(t, file("a", text))
		applied(t, "behind the end", f, planned(t, packed(t, f), to))
		is(t, "behind the end", f, to)
	}
}
