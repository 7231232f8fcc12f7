package mend_test

import (
	"fmt"
	"slices"
	"strconv"
	"strings"
	"testing"

	"furrow/api"
	"furrow/mend"
)

// deep: directories 2, 3, .. one in the other from the root on, each with this name but the last, and their paths.
func deep(t *testing.T, many int, name, last string) (*disk, []string) {
	t.Helper()
	d := formatted(t, large)
	var paths []string
	path := ""
	for k := range many {
		n := name
		if k == many-1 {
			n = last
		}
		d.dir(k+1, d.sh.Data+k, to(n, k+2))
		path = strings.TrimPrefix(path+"/"+n, "/")
		paths = append(paths, path)
	}
	d.dir(many+1, 0)
	return d, paths
}

func dirs(paths []string) []api.Member {
	var l []api.Member
	for _, p := range paths {
		l = append(l, aDir(p))
	}
	return l
}

// P22.4: a path of 199 bytes is a place, one of 200 or more isn't.
func TestP22_4LongPaths(t *testing.T) {
	long := strings.Repeat("n", 28)
	d, paths := deep(t, 7, long, long[:25])
	if len(paths[6]) != 199 {
		t.Fatal(len(paths[6]))
	}
	d.breaches("199 bytes")
	d.losses("199 bytes")
	d.members("199 bytes", dirs(paths)...)
	for last := 26; last <= 28; last++ {
		d, paths = deep(t, 7, long, long[:last])
		d.breaches("more bytes")
		d.losses("more bytes", unnamed(api.ErrPathLong, 7, long[:last]), loss(api.ErrLost, 8))
		d.members("more bytes", append([]api.Member{aDir("lost"), aDir("lost/8")}, dirs(paths[:6])...)...)
	}
}

// P22.4: a hundred directories one in the other, with names of one byte: 199 bytes. Of one more the last has no place on the way.
func TestP22_4DeepPaths(t *testing.T) {
	d, paths := deep(t, 100, "n", "n")
	d.breaches("100")
	d.losses("100")
	d.members("100", dirs(paths)...)
	d, paths = deep(t, 122, "n", "n")
	d.breaches("122")
	d.losses("122", unnamed(api.ErrPathLong, 101, "n"), loss(api.ErrLost, 102))
	want := []api.Member{aDir("lost"), aDir("lost/102")}
	for k := range 21 {
		want = append(want, aDir("lost/102"+strings.Repeat("/n", k+1)))
	}
	d.members("122", append(want, dirs(paths[:100])...)...)
}

// P22.4: a file whose one path is too long is put below what is lost; a name that hangs is told so first, and one of too long a path ahead of one too many.
func TestP22_4Order(t *testing.T) {
	long := strings.Repeat("n", 28)
	d, paths := deep(t, 6, long, long)
	d.dir(7, 60, to(strings.Repeat("a", 28), 8), to(strings.Repeat("b", 28), 9), to(strings.Repeat("c", 28), 2), to("d", 2), to("e", 8))
	d.file(8, 2)
	d.losses("four names", unnamed(api.ErrPathLong, 7, strings.Repeat("a", 28)), unnamed(api.ErrHang, 7, strings.Repeat("b", 28)), unnamed(api.ErrPathLong, 7, strings.Repeat("c", 28)), unnamed(api.ErrCount, 7, "d"))
	d.members("four names", append(dirs(paths), aFile(paths[5]+"/e", 0))...)
	d.dir(7, 60, to(strings.Repeat("a", 28), 8))
	d.losses("a file", unnamed(api.ErrPathLong, 7, strings.Repeat("a", 28)), loss(api.ErrLost, 8))
	d.members("a file", append([]api.Member{aDir("lost"), aFile("lost/8", 0)}, dirs(paths)...)...)
}

// P22.4: a directory is gone down from ahead of the next name, so it is at the first of its names on that way.
func TestP22_4FirstNames(t *testing.T) {
	d := formatted(t, small)
	d.dir(1, 9, to("a", 2), to("b", 3), to("c", 3))
	d.dir(2, 10, to("x", 3), to("y", 4), to("z", 2))
	d.dir(3, 11, to("w", 4), to("v", 2))
	d.dir(4, 12, to("u", 3))
	d.losses("each below the other", unnamed(api.ErrCount, 3, "v"), unnamed(api.ErrCount, 4, "u"), unnamed(api.ErrCount, 2, "y"), unnamed(api.ErrCount, 2, "z"), unnamed(api.ErrCount, 1, "b"), unnamed(api.ErrCount, 1, "c"))
	d.members("each below the other", aDir("a"), aDir("a/x"), aDir("a/x/w"))
}

// P22.4: names rise by their bytes, whatever the order in which they came.
func TestP22_4Rising(t *testing.T) {
	d := formatted(t, small)
	d.dir(1, 9, to("b", 7), to("\xff", 7), to("a.", 7), to("a", 2), to("\x01", 7), to("B", 7))
	d.dir(2, 10, to("z", 7), to("y", 7))
	d.losses("six", unnamed(api.ErrHang, 1, "\x01"), unnamed(api.ErrHang, 1, "B"), unnamed(api.ErrHang, 2, "y"), unnamed(api.ErrHang, 2, "z"), unnamed(api.ErrHang, 1, "a."), unnamed(api.ErrHang, 1, "b"), unnamed(api.ErrHang, 1, "\xff"))
	d.file(7, 7)
	d.members("six", aFile("\x01", 0), aLink("B", "\x01"), aDir("a"), aLink("a/y", "\x01"), aLink("a/z", "\x01"), aLink("a.", "\x01"), aLink("b", "\x01"), aLink("\xff", "\x01"))
}

// P22.4: a file has a hundred places at most.
func TestP22_4Links(t *testing.T) {
	d := formatted(t, wide)
	var names []api.Dent
	for k := range 103 {
		names = append(names, to(fmt.Sprintf("n%03d", k), 3))
	}
	d.dir(1, 60, to("d", 2))
	d.file(3, 100)
	d.dir(2, 70, names[:100]...)
	d.breaches("100")
	d.losses("100")
	d.dir(2, 70, names...)
	d.breaches("103", breach(api.ErrCount, 3))
	d.losses("103", unnamed(api.ErrCount, 2, "n100"), unnamed(api.ErrCount, 2, "n101"), unnamed(api.ErrCount, 2, "n102"))
	want := []api.Member{aDir("d"), aFile("d/n000", 0)}
	for _, n := range names[1:100] {
		want = append(want, aLink("d/"+n.Name, "d/n000"))
	}
	d.members("103", want...)
	d.dir(4, 90, to("f", 3), to("g", 3)) // what isn't reached comes behind all that is
	d.dir(2, 70, names[:99]...)
	d.losses("one is left", loss(api.ErrLost, 4), unnamed(api.ErrCount, 4, "g"))
	want[len(want)-1] = aDir("lost")
	d.members("one is left", append(want, aDir("lost/4"), aLink("lost/4/f", "d/n000"))...)
}

// P22.5: the name of the directory is the first that is no place at the top: one that was let go there is none, nor is one further down.
func TestP22_5Names(t *testing.T) {
	d := formatted(t, small)
	d.file(3, 1)
	d.dir(1, 9, to("lost", 8), to("d", 2))
	d.dir(2, 10, to("lost", 4), to("lost+", 4))
	d.file(4, 2)
	d.members("a name that hangs", aDir("d"), aFile("d/lost", 0), aLink("d/lost+", "d/lost"), aDir("lost"), aFile("lost/3", 0))
	d.losses("a name that hangs", unnamed(api.ErrHang, 1, "lost"), loss(api.ErrLost, 3))
	d.dir(1, 9, to("d", 2), to("lost", 2))
	d.members("a name too many", aDir("d"), aFile("d/lost", 0), aLink("d/lost+", "d/lost"), aDir("lost"), aFile("lost/3", 0))
	d.losses("a name too many", unnamed(api.ErrCount, 1, "lost"), loss(api.ErrLost, 3))
	d.dir(1, 9, to("lost", 2))
	d.members("a directory", aDir("lost"), aFile("lost/lost", 0), aLink("lost/lost+", "lost/lost"), aDir("lost+"), aFile("lost+/3", 0))
	d.dir(1, 9, to("lost+", 2), to("lost++", 4))
	d.members("not the first", aDir("lost"), aFile("lost/3", 0), aDir("lost+"), aFile("lost+/lost", 0), aLink("lost+/lost+", "lost+/lost"), aLink("lost++", "lost+/lost"))
	d.dir(1, 9, to("LOST", 2), to("lost ", 4), to("lost-", 4), to("los", 4))
	d.members("others", aDir("LOST"), aFile("LOST/lost", 0), aLink("LOST/lost+", "LOST/lost"), aLink("los", "LOST/lost"), aDir("lost"), aFile("lost/3", 0), aLink("lost ", "LOST/lost"), aLink("lost-", "LOST/lost"))
}

// P22.5: names up to 28 bytes; if all are taken each node that is left is a loss.
func TestP22_5Taken(t *testing.T) {
	d := formatted(t, middling)
	var names []api.Dent
	for k := range 25 {
		names = append(names, to("lost"+strings.Repeat("+", k), 2))
	}
	d.file(2, 25)
	d.dir(3, 40, to("f", 4), to("x", 2), to("h", 23))
	d.file(4, 1)
	d.file(24, 1)
	last := names[24].Name
	if len(last) != 28 {
		t.Fatal(last)
	}
	want := []api.Member{aFile("lost", 0)}
	for _, n := range names[1:24] {
		want = append(want, aLink(n.Name, "lost"))
	}
	d.dir(1, 30, names...)
	d.breaches("all", breach(api.ErrHang, 3), breach(api.ErrCount, 2), breach(api.ErrCount, 3), breach(api.ErrCount, 24), breach(api.ErrLost, 3), breach(api.ErrLost, 4), breach(api.ErrLost, 24))
	d.losses("all", loss(api.ErrLost, 3), loss(api.ErrLost, 4), loss(api.ErrLost, 24))
	d.members("all", append(want, aLink(last, "lost"))...)
	d.dir(1, 30, names[:24]...)
	d.losses("the last is left", loss(api.ErrLost, 3), unnamed(api.ErrHang, 3, "h"), loss(api.ErrLost, 24))
	d.members("the last is left", append(want, aDir(last), aFile(last+"/24", 0), aDir(last+"/3"), aFile(last+"/3/f", 0), aLink(last+"/3/x", "lost"))...)
}

// P22.5: the least that no other one has a name for comes first; a name of its own doesn't count, nor one in a file's or a reached directory.
func TestP22_5Next(t *testing.T) {
	d := formatted(t, middling)
	d.dir(1, 20, to("top", 2))
	d.dir(2, 21)
	d.file(3, 1)
	d.dir(4, 22, to("x", 3))
	d.dir(5, 23, to("me", 5), to("y", 4))
	d.dir(6, 24, to("z", 7), to("t", 2))
	d.dir(7, 25, to("z", 6))
	d.losses("a heap", loss(api.ErrLost, 5), unnamed(api.ErrCount, 5, "me"), loss(api.ErrLost, 6), unnamed(api.ErrCount, 6, "t"), unnamed(api.ErrCount, 7, "z"))
	d.members("a heap", aDir("lost"), aDir("lost/5"), aDir("lost/5/y"), aFile("lost/5/y/x", 0), aDir("lost/6"), aDir("lost/6/z"), aDir("top"))
}

// P22.5: a way round with a tail: the least of all is taken, though another one leads to it; what hangs on it comes along.
func TestP22_5Round(t *testing.T) {
	d := formatted(t, middling)
	d.dir(3, 21, to("a", 4))
	d.dir(4, 22, to("b", 5))
	d.dir(5, 23, to("c", 4), to("d", 3))
	d.file(2, 1)
	d.dir(6, 24, to("e", 6), to("f", 2))
	d.losses("rounds", loss(api.ErrLost, 6), unnamed(api.ErrCount, 6, "e"), loss(api.ErrLost, 3), unnamed(api.ErrCount, 5, "c"), unnamed(api.ErrCount, 5, "d"))
	d.members("rounds", aDir("lost"), aDir("lost/3"), aDir("lost/3/a"), aDir("lost/3/a/b"), aDir("lost/6"), aFile("lost/6/f", 0))
}

// P22.5: the order is asked anew behind each: what a directory's name led to too deep down comes next by itself.
func TestP22_5Anew(t *testing.T) {
	long := strings.Repeat("n", 28)
	d := formatted(t, wide)
	for k := range 8 { // 10 to 17, one in the other, and not reached
		d.dir(10+k, 60+k, to(long, 11+k))
	}
	d.dir(18, 0)
	d.file(20, 1)
	at := "lost/10" + strings.Repeat("/"+long, 6)
	if len(at) != 181 {
		t.Fatal(len(at))
	}
	d.losses("a chain", loss(api.ErrLost, 10), unnamed(api.ErrPathLong, 16, long), loss(api.ErrLost, 17), loss(api.ErrLost, 20))
	var want []api.Member
	want = append(want, aDir("lost"))
	for k := range 7 {
		want = append(want, aDir("lost/10"+strings.Repeat("/"+long, k)))
	}
	d.members("a chain", append(want, aDir("lost/17"), aDir("lost/17/"+long), aFile("lost/20", 0))...)
}

// P22.5: numbers are told in digits, and members stand by their texts, not by their numbers.
func TestP22_5Digits(t *testing.T) {
	d := formatted(t, large)
	want := []api.Member{aDir("lost"), aFile("lost/10", 0), aFile("lost/100", 0), aFile("lost/2", 0), aFile("lost/256", 0), aFile("lost/9", 0)}
	var losses []api.Loss
	for _, ino := range []int{2, 9, 10, 100, 256} {
		d.file(ino, 1)
		losses = append(losses, loss(api.ErrLost, ino))
	}
	d.losses("five", losses...)
	d.members("five", want...)
}

// P22.7: each kept node but the root has a place, unless all names are taken; what isn't kept is told.
func TestP22_7EachHasAPlace(t *testing.T) {
	r := chance()
	for range 400 {
		d := drawn(t, r, pick(r, small, middling))
		s, _ := seen(d.b)
		members, losses := mend.Rescue(d.b)
		firsts := 0
		for _, m := range members {
			if m.Kind != api.MemberLink {
				firsts++
			}
		}
		told := map[int]bool{}
		home := 0
		for _, l := range losses {
			told[l.Place] = told[l.Place] || l.Name == ""
			if l.Reason == api.ErrLost {
				home = 1
				told[l.Place] = false
			}
		}
		want := home
		for ino := 2; ino <= d.sh.Inodes; ino++ {
			switch {
			case s.refused[ino] != api.OK && !told[ino]:
				t.Fatalf("P22.7: inode %d is refused, and isn't told: %v", ino, losses)
			case s.nodes[ino] != nil && !told[ino]:
				want++
			}
		}
		if s.nodes[1] != nil && !s.isDir(1) && !slices.Contains(losses, loss(api.ErrTwice, 1)) {
			want++
		}
		if firsts != want {
			t.Fatalf("P22.7: %d files and directories, want %d:%s\n%v", firsts, want, shown(members), losses)
		}
	}
}

// P22.7: thousands of names, of which each file can have a hundred.
func TestP22_7ManyNames(t *testing.T) {
	d := formatted(t, large)
	var names []api.Dent
	for k := range 7 * 900 {
		names = append(names, to("n"+strconv.Itoa(1000000+k), 2+k%60))
	}
	d.dir(1, d.sh.Data, names...)
	for ino := 2; ino < 62; ino++ {
		d.file(ino, 100)
	}
	members, losses := mend.Rescue(d.b)
	if len(members) != 6000 || len(losses) != 300 || losses[0] != unnamed(api.ErrCount, 1, "n1006000") {
		t.Errorf("P22.7: %d members, %d losses", len(members), len(losses))
	}
	judged(t, "many names", d.b)
}
