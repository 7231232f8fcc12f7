package volume_test

import (
	"bytes"
	"fmt"
	"math/rand"
	"reflect"
	"testing"

	"furrow/api"
	"furrow/volume"
)

// pagesOf: the bytes of all pages that the files' maps name, in the nodes' order.
func pagesOf(st api.State, image []byte) []byte {
	var list []byte
	for _, n := range st.Nodes {
		for _, r := range n.Map {
			list = append(list, image[512*r.Page:512*(r.Page+r.Count)]...)
		}
	}
	return list
}

// side: what a loss of power may leave: a state's meaning, and its files' bytes.
type side struct {
	nodes []api.Node
	bytes []byte
}

func sideOf(t *testing.T, image []byte) side {
	t.Helper()
	st := replayed(t, image)
	return side{meant(st), pagesOf(st, image)}
}

func (s side) is(o side) bool {
	return reflect.DeepEqual(s.nodes, o.nodes) && bytes.Equal(s.bytes, o.bytes)
}

// lostAnywhere: P15.13 of a Do on a device of these bytes, cut behind each number of steps (only some, if there are many).
func lostAnywhere(t *testing.T, r *rand.Rand, what string, image []byte, edits []api.Edit, cuts, crashes int) {
	t.Helper()
	whole := load(t, image)
	v := mounts(t, whole)
	first := whole.Steps()
	if v.Do(edits) != api.OK {
		return
	}
	ahead, behind := sideOf(t, image), sideOf(t, whole.View())
	steps := whole.Steps() - first
	for cut := 0; cut <= steps; cut += 1 + r.Intn(max(1, 2*steps/cuts)) {
		d := load(t, image)
		v := mounts(t, d)
		d.Arm(cut)
		e := v.Do(edits)
		for _, left := range everyCrash(r, d, crashes) {
			got := sideOf(t, left)
			if !got.is(behind) && (e == api.OK || !got.is(ahead)) {
				t.Fatalf("%s: Do(%s), cut at %d of %d, answers %v; left are\n%+v\nahead of it\n%+v\nbehind it\n%+v", what, text(edits), cut, steps, e, got.nodes, ahead.nodes, behind.nodes)
			}
		}
	}
}

// TestP15_13Drawn: transactions of all sorts, cut anywhere.
func TestP15_13Drawn(t *testing.T) {
	r := chance()
	for _, s := range []api.Super{small, middling, tight} {
		d, v := fresh(t, s)
		for i := range 40 {
			edits := drawnEdits(r, v.State())
			lostAnywhere(t, r, fmt.Sprint(s, " transaction ", i), d.View(), edits, 40, 6)
			v.Do(edits)
		}
	}
}

// TestP15_13EveryStep: some, cut at each step, with many choices; one of them collects two logs.
func TestP15_13EveryStep(t *testing.T) {
	r := chance()
	d, _ := furnished(t)
	for _, edits := range [][]api.Edit{
		{says(1, add("n", 6)), newFile(6)}, {says(1, drop("a")), {Ino: 2, Links: 1}}, {says(3, drop("e")), frees(4)}, {says(3, drop("e")), says(5, add("e", 4))},
		{writes(2, 700, fills('k', 1)...)}, {says(2, size(0))}, {says(1, drop("a"), drop("b")), frees(2)},
		{says(1, add("n", 6), drop("x")), {Ino: 6, Kind: api.KindFile, Links: 1, Fills: fills(1, 0), Size: 9}, frees(5)},
	} {
		lostAnywhere(t, r, "furnished", d.View(), edits, 1<<20, 20)
	}
	d, _ = long(t, 6)
	lostAnywhere(t, r, "long", d.View(), []api.Edit{says(3, size(50)), says(2, size(60))}, 1<<20, 20)
	lostAnywhere(t, r, "long", d.View(), []api.Edit{says(2, size(0))}, 1<<20, 20)
	d, _ = long(t, 0)
	lostAnywhere(t, r, "long", d.View(), []api.Edit{says(2, size(60)), says(4, size(0))}, 1<<20, 20) // it collects into a page that was a file's
}

// TestP15_13Again: a long life: transactions, cuts, crashes and mounts in turn; what was answered stays.
func TestP15_13Again(t *testing.T) {
	r := chance()
	for _, s := range []api.Super{small, middling} {
		image := formatted(t, s).View()
		for life := range 150 {
			d := load(t, image)
			v, err := volume.Mount(d, 1+r.Intn(64), []int{r.Intn(9), r.Intn(9)})
			if err != nil {
				t.Fatalf("life %d: %v", life, err)
			}
			for range r.Intn(4) {
				v.Do(drawnEdits(r, v.State()))
			}
			edits := drawnEdits(r, v.State())
			whole := load(t, d.View())
			mounts(t, whole).Do(edits)
			ahead, behind := sideOf(t, d.View()), sideOf(t, whole.View())
			d.Arm(r.Intn(150))
			e := v.Do(edits)
			crashes := everyCrash(r, d, 8)
			image = crashes[r.Intn(len(crashes))]
			if got := sideOf(t, image); !got.is(behind) && (e != api.ErrDead || !got.is(ahead)) {
				t.Fatalf("life %d: Do(%s) answers %v, and left is %+v", life, text(edits), e, got.nodes)
			}
		}
	}
}
