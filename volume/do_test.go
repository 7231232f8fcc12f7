package volume_test

import (
	"fmt"
	"math/rand"
	"testing"

	"furrow/api"
	"furrow/pmem"
	"furrow/volume"
)

// beside: whether Do on a volume of d answers what the chapter says, and the device is what the chapter's steps make of it: m is d's twin.
func beside(t *testing.T, what string, d, m *pmem.Device, v *volume.Volume, edits []api.Edit) api.Errno {
	t.Helper()
	want := twin(t, m, edits)
	ahead := v.State()
	e := v.Do(edits)
	if e != want {
		t.Fatalf("%s: Do(%s) = %v; want %v; the state %+v", what, text(edits), e, want, ahead)
	}
	alike(t, what+" "+text(edits), d, m)
	if e == api.ErrDead {
		closed(t, what, v, v.Why())
		return e
	}
	holds(t, what+" "+text(edits), d, v)
	return e
}

// cutEverywhere: the same, on devices that go dead behind each number of steps (only some, if there are many).
func cutEverywhere(t *testing.T, what string, image []byte, edits []api.Edit) {
	t.Helper()
	m := load(t, image)
	if twin(t, m, edits) != api.OK {
		return
	}
	every := max(1, m.Steps()/60)
	for cut := 0; cut <= m.Steps(); cut += every {
		d, twin := load(t, image), load(t, image)
		v := mounts(t, d)
		d.Arm(cut)
		twin.Arm(cut)
		e := beside(t, fmt.Sprintf("%s, cut at %d of %d", what, cut, m.Steps()), d, twin, v, edits)
		if cut < m.Steps() && e != api.ErrDead {
			t.Fatalf("%s, cut at %d of %d: %v", what, cut, m.Steps(), e)
		}
	}
}

// row: what a row of transactions came to.
type row struct {
	ok, bad, full, collected int
}

// goRow: transactions that are drawn, each beside its twin; some of them cut.
func goRow(t *testing.T, r *rand.Rand, s api.Super, n int) row {
	t.Helper()
	var sum row
	d, m := formatted(t, s), formatted(t, s)
	v := mounts(t, d)
	for i := range n {
		what := fmt.Sprint(s, " transaction ", i)
		ahead := v.State()
		edits := drawnEdits(r, ahead)
		if r.Intn(4) == 0 {
			edits = spoilt(r, edits)
		}
		if r.Intn(40) == 0 {
			cutEverywhere(t, what, d.View(), edits)
		}
		switch beside(t, what, d, m, v, edits) {
		case api.OK:
			sum.ok++
		case api.ErrEdit:
			sum.bad++
		case api.ErrNoSpace:
			sum.full++
		}
		for _, n := range v.State().Nodes {
			if n.Entries < nodeOf(ahead, n.Ino).Entries && n.Links > 0 {
				sum.collected++
			}
		}
	}
	return sum
}

// TestP15_9Drawn: answers, steps and states of long rows, from the smallest device to the largest.
func TestP15_9Drawn(t *testing.T) {
	r := chance()
	var all row
	for _, s := range []api.Super{small, middling, tight, small, middling, {Pages: 100, Inodes: 8, Cores: 8}} {
		sum := goRow(t, r, s, 220)
		all = row{all.ok + sum.ok, all.bad + sum.bad, all.full + sum.full, all.collected + sum.collected}
	}
	if all.ok < 400 || all.bad < 100 || all.full < 30 || all.collected < 20 {
		t.Errorf("what was drawn tells little: %+v", all)
	}
	goRow(t, r, large, 60)
}
