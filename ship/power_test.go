package ship_test

import (
	"bytes"
	"errors"
	"math/rand"
	"slices"
	"testing"

	"furrow/api"
	"furrow/fs"
	"furrow/pmem"
	"furrow/ship"
)

// crashes: what a loss of power may leave of the device: the two ends, and some that are drawn.
func crashes(r *rand.Rand, d *pmem.Device, many int) [][]byte {
	doubts := d.Doubts()
	list := [][]byte{d.Crash(nil), d.View()}
	if len(doubts) == 0 {
		return list[1:]
	}
	choices := make([]int, len(doubts))
	for len(list) < many {
		for k := range choices {
			choices[k] = r.Int()
		}
		list = append(list, d.Crash(choices))
	}
	return list
}

// trees: the trees behind no step of a list, behind the first one, the first two and so on.
func trees(t *testing.T, image []byte, list []api.Step) [][]byte {
	t.Helper()
	f := mounts(t, load(t, image))
	all := [][]byte{packed(t, f)}
	for k := range list {
		applied(t, "step by step", f, list[k:k+1])
		all = append(all, packed(t, f))
	}
	return all
}

// found: what a mount finds of an image, by any workers.
func found(t *testing.T, r *rand.Rand, image []byte) *fs.FS {
	t.Helper()
	f, err := fs.Mount(load(t, image), 1+r.Intn(64), []int{r.Intn(9), r.Intn(9)})
	if err != nil {
		t.Fatalf("P23.7: Mount: %v", err)
	}
	return f
}

// cutAnywhere: the way to a tree is cut behind every number of the device's steps; what is found is the tree behind as many steps as answered, or behind one more, and from there the way leads on.
func cutAnywhere(t *testing.T, r *rand.Rand, image, to []byte, stride int) {
	t.Helper()
	list := planned(t, packed(t, mounts(t, load(t, image))), to)
	all := trees(t, image, list)
	seen := make([]int, len(all))
	for steps := 0; ; steps += stride {
		d := load(t, image)
		f := mounts(t, d)
		d.Arm(steps)
		n, err := ship.Apply(f, list)
		if err == nil && n != len(list) || err != nil && !errors.Is(err, api.ErrDead) {
			t.Fatalf("P23.7: behind %d steps of the device: Apply = %d, %v", steps, n, err)
		}
		for _, left := range crashes(r, d, 4) {
			g := found(t, r, left)
			is := packed(t, g)
			switch {
			case bytes.Equal(is, all[n]):
				seen[n]++
			case err != nil && bytes.Equal(is, all[n+1]):
				seen[n+1]++
			default:
				t.Fatalf("P23.7: behind %d steps of the device, and %d of%s\nthere is%s", steps, n, told(list), shown(opened(t, is)))
			}
			arrives(t, g, to)
		}
		if err == nil {
			break
		}
	}
	if stride == 1 && slices.Contains(seen, 0) {
		t.Errorf("P23.7: a tree between was never found: %v", seen)
	}
}

// arrives: the way from what a file system has to a tree leads there.
func arrives(t *testing.T, f *fs.FS, to []byte) {
	t.Helper()
	applied(t, "P23.7", f, planned(t, packed(t, f), to))
	is(t, "P23.7", f, to)
}

// P23.7: power is lost amid ways on which everything comes about: going, coming, changes.
func TestP23_7Power(t *testing.T) {
	r := chance()
	d, f := fresh(t, tight)
	did(t, f.Mkdir("/d"), f.Create("/d/f"), f.Write("/d/f", 0, "hello"), f.Link("/d/f", "/g"), f.Mkdir("/e"), f.Create("/e/x"), f.Create("/k"), f.Write("/k", 0, zeros(1100)+"end"), f.Truncate("/k", 1050), f.Unmount())
	to := made(t, file("d", "a file"), dir("e"), dir("e/h"), file("e/h/n", "new"+zeros(700)), link("e/l", "e/h/n"), file("g", "hello"), file("k", zeros(512)+"z"+zeros(900)), link("z", "d"))
	from := packed(t, mounts(t, load(t, d.View())))
	cutAnywhere(t, r, d.View(), to, 1)
	there, _ := holding(t, tight, to)
	cutAnywhere(t, r, there.View(), from, 1)
	none, _ := fresh(t, small)
	cutAnywhere(t, r, none.View(), made(t, tree()...), 1)
	full, _ := holding(t, small, made(t, tree()...))
	cutAnywhere(t, r, full.View(), made(t), 1)
}

// P23.7: drawn ways, cut behind some numbers of steps.
func TestP23_7Drawn(t *testing.T) {
	r := chance()
	for range 12 {
		from, to := drawnPair(r, 8, 1200)
		d, f := holding(t, middling, made(t, from...))
		if r.Intn(2) == 0 {
			did(t, f.Unmount())
		}
		cutAnywhere(t, r, d.View(), made(t, to...), 1+r.Intn(5))
	}
}

// P23.7: again and again power is lost on the way, each time on the way from what was found; it is reached at last, and each step that answered is one less to go.
func TestP23_7Again(t *testing.T) {
	r := chance()
	for range 300 {
		from, to := drawnPair(r, 9, 1500)
		target := made(t, to...)
		d, _ := holding(t, middling, made(t, from...))
		for left := lostOnTheWay(t, r, d, target); left != nil; {
			left = lostOnTheWay(t, r, load(t, left), target)
		}
	}
}

// lostOnTheWay: what a loss of power leaves of a device on the way to a tree; nil, if it gets there.
func lostOnTheWay(t *testing.T, r *rand.Rand, d *pmem.Device, to []byte) []byte {
	t.Helper()
	f := mounts(t, d)
	list := planned(t, packed(t, f), to)
	d.Arm(200 + r.Intn(400)) // enough for a step at least
	n, err := ship.Apply(f, list)
	if err == nil {
		is(t, "P23.7", f, to)
		return nil
	}
	left := pick(r, crashes(r, d, 4)...)
	rest := planned(t, packed(t, found(t, r, left)), to)
	if !sameSteps(rest, list[n:]) && !sameSteps(rest, list[n+1:]) {
		t.Fatalf("P23.7: %d were done of the steps%s\nand to go are%s", n, told(list), told(rest))
	}
	return left
}
