package fs_test

import (
	"bytes"
	"errors"
	"math"
	"math/rand"
	"reflect"
	"slices"
	"strconv"
	"strings"
	"sync"
	"testing"

	"furrow/api"
	"furrow/fs"
)

// TestP18_8Links: a file has at most 100 names.
func TestP18_8Links(t *testing.T) {
	d, f := fresh(t, middling)
	did(t, f, create("/f"), write("/f", 0, "of f"), mkdir("/d"))
	for i := range 99 {
		did(t, f, link("/f", "/d/"+strconv.Itoa(i)))
	}
	follow(t, d, f, no(link("/f", "/more"), api.ErrLinks), no(link("/d/7", "/more"), api.ErrLinks), no(link("/f", "/d/7"), api.ErrExist), no(link("/f", "/more/"), api.ErrNotDir),
		tells(stat("/d/7"), file(2, 4, 100, 1)), yes(rename("/d/7", "/more")), yes(rename("/d/8", "/d/9")), yes(unlink("/d/10")), yes(link("/more", "/d/10")),
		reads(read("/d/10", 0, 9), "of f"), no(link("/f", "/d/11"), api.ErrExist))
}

// TestR1Wild: whatever numbers and texts there are, a call ends, and answers what a plain tree does.
func TestR1Wild(t *testing.T) {
	r := chance()
	d, _, _ := furnished(t)
	b := besideOf(t, d.View(), grown(middling, furniture()))
	numbers := append([]int{0, 1, 511, 512, 4096, 4097, 262143, 262144, math.MaxInt - 1, math.MinInt + 4096}, wild...)
	for _, n := range numbers {
		for _, m := range numbers {
			b.does(t, read("/f", n, m))
		}
		for _, many := range []int{0, 1, 512, 4096, 4097, 100000} {
			b.does(t, write("/d/k", n, strings.Repeat("x", many)))
		}
		b.does(t, truncate("/d/k", n))
	}
	for range 3000 {
		text := make([]byte, r.Intn(12))
		for i := range text {
			text[i] = "/afg.\x00\xff"[r.Intn(7)]
		}
		o := oneOf(r, withPaths(string(text), "/e/n"))
		if r.Intn(2) == 0 {
			o = oneOf(r, []op{rename("/a/g", string(text)), link("/f", string(text)), rename("/a/s", string(text))})
		}
		if b.does(t, o) == api.OK && o.cost() > 0 {
			b = besideOf(t, d.View(), grown(middling, furniture()))
		}
	}
}

// TestR3Picks: what is handed in isn't changed, its spare room neither, and isn't kept.
func TestR3Picks(t *testing.T) {
	d, _, p := furnished(t)
	picks := []int{3, -1, 1 << 62, 0, 7, 7}
	was := append([]int(nil), picks...)
	f, err := fs.Mount(d, 4, picks[:3])
	if err != nil || !reflect.DeepEqual(picks, was) {
		t.Fatalf("Mount: %v; the picks are %v", err, picks)
	}
	clear(picks)
	isPlain(t, f, p)
}

// TestR3Answers: what is answered is new memory, spare room too.
func TestR3Answers(t *testing.T) {
	_, f, p := furnished(t)
	list, err := f.ReadDir("/a")
	other, err2 := f.ReadDir("/a")
	items, other2 := walked(t, f), walked(t, f)
	if err != nil || err2 != nil || len(list) != 3 {
		t.Fatal(list, err, err2)
	}
	clear(list[:cap(list)])
	clear(items[:cap(items)])
	_ = append(list, api.Dent{Name: "new", Ino: 9})
	if other[0] != (api.Dent{Name: "g", Ino: 5}) || !reflect.DeepEqual(other2, p.items()) {
		t.Errorf("two answers share memory: %v, %v", other, other2)
	}
	isPlain(t, f, p)
}

// TestR4Determined: the same operations leave the same bytes, in as many steps, whoever mounts; two file systems have nothing in common.
func TestR4Determined(t *testing.T) {
	d1, f1 := fresh(t, middling)
	d2, f2 := fresh(t, middling)
	d3, f3 := fresh(t, middling)
	empty := d3.View()
	p := newPlain(middling)
	r1, r2 := rand.New(rand.NewSource(4)), rand.New(rand.NewSource(4))
	for i := range 300 {
		o := drawnOp(r1, p)
		if other := drawnOp(r2, p); other != o {
			t.Fatal("the draw isn't the same")
		}
		out, a, b := p.asked(o), asks(t, f1, o), asks(t, f2, o)
		if !a.is(b) {
			t.Fatalf("%v = %+v, %+v", o, a, b)
		}
		if a.e == api.OK && out.change != nil {
			out.change()
		}
		if i%40 == 39 {
			f1 = mounts(t, d1)
			f2, _ = fs.Mount(d2, 64, []int{i, 3 * i, -i})
		}
	}
	if !bytes.Equal(d1.View(), d2.View()) || d1.Steps() != d2.Steps() {
		t.Error("the devices differ")
	}
	if isPlain(t, f3, newPlain(middling)); !bytes.Equal(d3.View(), empty) {
		t.Error("another device has changed")
	}
}

// crowdOp: an operation that many do at the same time: what it adds to the names of files and of directories, and what it may be refused for.
type crowdOp struct {
	op
	adds [2]int
	may  []api.Errno
}

func crowdOps() []crowdOp {
	none, one, less := [2]int{}, [2]int{1, 0}, [2]int{-1, 0}
	exist, noEnt := []api.Errno{api.ErrExist}, []api.Errno{api.ErrNoEnt}
	return []crowdOp{
		{create("/x"), one, exist}, {unlink("/x"), less, noEnt}, {link("/f", "/d/l"), one, exist}, {unlink("/d/l"), less, noEnt},
		{mkdir("/d/s"), [2]int{0, 1}, exist}, {rmdir("/d/s"), [2]int{0, -1}, noEnt}, {rename("/m", "/d/m"), none, noEnt}, {rename("/d/m", "/m"), none, noEnt},
		{write("/x", 700, "x"), none, noEnt}, {truncate("/x", 3), none, noEnt}, {write("/f", 0, "abc"), none, nil}, {read("/f", 0, 9), none, nil},
		{stat("/x"), none, noEnt}, {readdir("/d"), none, nil}, {op{name: "walk"}, none, nil}, {op{name: "info"}, none, nil},
	}
}

// TestR4Goroutines: calls of several goroutines come one after the other: none is refused but as a plain tree would refuse it, and what they make and take away adds up.
func TestR4Goroutines(t *testing.T) {
	d, f := fresh(t, large)
	did(t, f, mkdir("/d"), create("/f"), create("/m"))
	const many = 8
	var sums [many][2]int
	var all sync.WaitGroup
	for g := range many {
		all.Go(func() {
			r := rand.New(rand.NewSource(int64(g)))
			for range 150 {
				o := oneOf(r, crowdOps())
				_, err := o.on(f)
				var e api.Errno
				if errors.As(err, &e) && !slices.Contains(o.may, e) {
					t.Errorf("%v = %v", o.op, err)
				}
				if err == nil {
					sums[g][0] += o.adds[0]
					sums[g][1] += o.adds[1]
				}
			}
		})
	}
	all.Wait()
	want, got := [2]int{2, 2}, [2]int{}
	for _, s := range sums {
		want[0] += s[0]
		want[1] += s[1]
	}
	for _, i := range walked(t, f) {
		got[i.Stat.Kind-api.KindFile]++
	}
	if got != want {
		t.Errorf("there are %v names of files and of directories; want %v", got, want)
	}
	if !reflect.DeepEqual(walked(t, f), walked(t, mounts(t, load(t, d.View())))) {
		t.Error("the device means another tree")
	}
}
