package names_test

import (
	"math/rand"
	"slices"
	"strings"
	"testing"

	"furrow/api"
	"furrow/names"
)

// TestP8_6Order: rising by bytes, in whatever order the names came.
func TestP8_6Order(t *testing.T) {
	want := slices.Clone(good)
	slices.Sort(want)
	for seed := range int64(20) {
		x := names.New()
		for _, i := range rand.New(rand.NewSource(seed)).Perm(len(good)) {
			x.Put(4, good[i], 1+i)
		}
		l := x.List(4)
		if len(l) != len(want) {
			t.Fatalf("%d names, want %d", len(l), len(want))
		}
		for i, d := range l {
			if d.Name != want[i] || good[d.Ino-1] != d.Name {
				t.Fatalf("at %d: %q, want %q", i, d.Name, want[i])
			}
			if i > 0 && !before(l[i-1].Name, d.Name) {
				t.Fatalf("%q stands behind %q", d.Name, l[i-1].Name)
			}
		}
	}
}

// TestP8_6Many: a directory of thousands of names beside others.
func TestP8_6Many(t *testing.T) {
	x := names.New()
	var want []api.Dent
	for i := range 4000 {
		name := "n" + strings.Repeat("m", i%9) + string(rune('a'+i%26)) + string(rune('a'+i/26%26)) + string(rune('a'+i/676))
		if e := x.Put(2, name, 1+i%256); e != api.OK {
			t.Fatalf("Put of %q: %d", name, e)
		}
		x.Put(3, name, 1)
		want = append(want, api.Dent{Name: name, Ino: 1 + i%256})
	}
	slices.SortFunc(want, func(a, b api.Dent) int { return strings.Compare(a.Name, b.Name) })
	same(t, "List", x.List(2), want)
	same(t, "All", gone(x, 2, -1), want)
	if x.Len(2) != 4000 || x.Clear(3) != 4000 || x.Len(2) != 4000 {
		t.Errorf("Len(2) = %d", x.Len(2))
	}
}

// TestP8_6None: nothing of a directory without names, and of what is none.
func TestP8_6None(t *testing.T) {
	x, _ := filled(t, 8)
	for _, n := range append([]int{3, 255, 6}, wild...) {
		if l := x.List(n); len(l) != 0 {
			t.Errorf("List(%d) = %v", n, l)
		}
		for name := range x.All(n) {
			t.Errorf("All(%d) hands on %q", n, name)
		}
	}
}

// TestP8_7Early: a loop that is left behind n names saw just these, and no call comes behind it.
func TestP8_7Early(t *testing.T) {
	x, m := filled(t, 9)
	all := m.list(7)
	for n := 1; n <= len(all); n++ {
		same(t, "left early", gone(x, 7, n), all[:n])
		calls := 0
		x.All(7)(func(string, int) bool {
			calls++
			return calls < n
		})
		if calls != n {
			t.Fatalf("%d calls, want %d", calls, n)
		}
	}
	m.agree(t, "behind the loops", x)
}

// TestP8_7BeginsAnew: an answer of All is at what is there when a loop begins, each time anew, also when the one before was left early, and when All was called ahead of the first name.
func TestP8_7BeginsAnew(t *testing.T) {
	x, m := names.New(), &model{}
	all := x.All(3)
	look := func(what string) {
		t.Helper()
		for range all {
			break
		}
		for range 2 {
			var l []api.Dent
			for name, ino := range all {
				l = append(l, api.Dent{Name: name, Ino: ino})
			}
			same(t, what, l, m.list(3))
		}
	}
	look("no name")
	for i, name := range good {
		m.puts(t, x, 3, name, 1+i)
		look("one name more")
	}
	for _, name := range good[:20] {
		m.drops(t, x, 3, name)
		look("one name less")
	}
	m.puts(t, x, 3, good[0], 200)
	look("a name for another inode")
	m.clears(t, x, 3)
	look("cleared")
}

// TestP8_7BodyPuts, TestP8_7BodyDrops, TestP8_7BodyClears: what the body does is done, and isn't seen by the loop.
func TestP8_7BodyPuts(t *testing.T) {
	x, m := names.New(), &model{}
	for _, name := range good[:20] {
		m.puts(t, x, 5, name, 2)
	}
	began, i := m.list(5), 0
	for name, ino := range x.All(5) {
		if i >= len(began) || name != began[i].Name || ino != began[i].Ino {
			t.Fatalf("at %d: %q, %d", i, name, ino)
		}
		m.puts(t, x, 5, name+"\x01", 3)
		m.puts(t, x, 5, "\x01"+name, 3)
		m.puts(t, x, 6, name, 3)
		i++
	}
	if i != 20 {
		t.Errorf("%d names", i)
	}
	m.agree(t, "behind a loop that puts", x)
}

func TestP8_7BodyDrops(t *testing.T) {
	for ahead := range 5 {
		x, m := filled(t, 10)
		began, i := m.list(1), 0
		for name, ino := range x.All(1) {
			if name != began[i].Name || ino != began[i].Ino {
				t.Fatalf("at %d: %q, %d, want %v", i, name, ino, began[i])
			}
			m.drops(t, x, 1, began[(i+ahead)%len(began)].Name)
			m.puts(t, x, 1, began[i].Name, 99)
			m.about(t, "amid a loop that drops", x, 1, 99)
			i++
		}
		if i != len(began) {
			t.Errorf("%d names, want %d", i, len(began))
		}
		m.agree(t, "behind a loop that drops", x)
	}
}

func TestP8_7BodyClears(t *testing.T) {
	x, m := filled(t, 11)
	began := m.list(256)
	var l []api.Dent
	for name, ino := range x.All(256) {
		m.clears(t, x, 256)
		l = append(l, api.Dent{Name: name, Ino: ino})
	}
	same(t, "a body that clears", l, began)
	m.agree(t, "behind a loop that clears", x)
}

// TestP8_7Within: a loop within a loop over the same answer is one of its own.
func TestP8_7Within(t *testing.T) {
	x, m := names.New(), &model{}
	for i, name := range good[:8] {
		m.puts(t, x, 1, name, 1+i)
	}
	all := x.All(1)
	outer := m.list(1)
	var seen []api.Dent
	for name, ino := range all {
		seen = append(seen, api.Dent{Name: name, Ino: ino})
		m.drops(t, x, 1, name)
		same(t, "a loop within", gone(x, 1, -1), m.list(1))
		for range all {
			break
		}
	}
	same(t, "the outer loop", seen, outer)
}
