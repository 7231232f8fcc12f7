package volume_test

import (
	"testing"

	"furrow/api"
	"furrow/pmem"
	"furrow/saved"
	"furrow/volume"
)

// unmounts: P15.14 of a volume on a device of these bytes, whole, and cut behind each step.
func unmounts(t *testing.T, what string, image []byte) []byte {
	t.Helper()
	st := replayed(t, image)
	m := load(t, image)
	was, e := saved.Save(m, st.Free)
	if e != api.OK {
		t.Fatalf("%s: Save: %v", what, e)
	}
	for cut := 0; cut <= m.Steps(); cut++ {
		d, twin := load(t, image), load(t, image)
		v := mounts(t, d)
		d.Arm(cut)
		twin.Arm(cut)
		saved.Save(twin, st.Free)
		want := api.ErrDead
		if cut == m.Steps() {
			want = api.OK
		}
		if e := v.Unmount(); e != want {
			t.Fatalf("%s, cut at %d of %d: Unmount = %v", what, cut, m.Steps(), e)
		}
		alike(t, what, d, twin)
		closed(t, what, v, api.ErrAbsent)
		for _, left := range everyCrash(chance(), d, 6) {
			w := mounts(t, load(t, left))
			if y := w.Why(); !sameState(w.State(), st) || y != api.OK && y != api.ErrAbsent || want == api.OK && (y == api.OK) != was {
				t.Fatalf("%s, cut at %d of %d: Why = %v, State = %+v", what, cut, m.Steps(), y, w.State())
			}
		}
	}
	return m.View()
}

func TestP15_14Steps(t *testing.T) {
	r := chance()
	for _, s := range []api.Super{small, middling, tight} {
		d := formatted(t, s)
		unmounts(t, "a new one", d.View())
		for range 4 {
			d, v := worked(t, r, s, 25)
			image := unmounts(t, "drawn", d.View())
			if e := v.Unmount(); e != api.OK || len(d.Doubts()) != 0 {
				t.Errorf("Unmount = %v, doubts %v", e, d.Doubts())
			}
			d = load(t, image) // once more: the stamp is another one
			mounts(t, d)
			unmounts(t, "again", d.View())
		}
	}
}

// holed: a volume of 1024 pages with at least so many spans of free pages.
func holed(t *testing.T, spans int) (*pmem.Device, *volume.Volume) {
	t.Helper()
	d, v := fresh(t, api.Super{Pages: 1024, Inodes: 8, Cores: 1})
	does(t, v, api.OK, says(1, add("a", 2), add("b", 3)), newFile(2), newFile(3))
	for i := range spans + 1 { // the two files' pages stand in turn
		does(t, v, api.OK, writes(2, 512*511, fills(byte(i), i)...), writes(3, 512*511, fills(byte(i+1), i)...))
	}
	does(t, v, api.OK, says(1, drop("b")), frees(3))
	return d, v
}

// TestP15_14Spans: 249 spans are saved, more are not; both are OK.
func TestP15_14Spans(t *testing.T) {
	d, v := holed(t, 251)
	st := v.State()
	if len(st.Free) <= 249 {
		t.Fatalf("%d spans", len(st.Free))
	}
	still(t, "P15.14", d, func() {
		if e := v.Unmount(); e != api.OK {
			t.Errorf("Unmount of %d spans = %v", len(st.Free), e)
		}
	})
	closed(t, "P15.14", v, api.ErrAbsent)
	v = mounts(t, d)
	if v.Why() != api.ErrAbsent || !sameState(v.State(), st) {
		t.Errorf("Why = %v", v.Why())
	}
	for len(v.State().Free) > 249 { // pages between two spans go, one by one
		n, _ := v.Node(2)
		last := n.Map[len(n.Map)-1]
		does(t, v, api.OK, says(2, size(512*last.Off)))
	}
	st = v.State()
	if e := v.Unmount(); len(st.Free) != 249 || e != api.OK {
		t.Errorf("Unmount of %d spans = %v", len(st.Free), e)
	}
	if v = mounts(t, d); v.Why() != api.OK || !sameState(v.State(), st) {
		t.Errorf("Why = %v", v.Why())
	}
}

// TestP15_14Dead: a device that is dead; of one that has no step to do it isn't asked.
func TestP15_14Dead(t *testing.T) {
	d, v := example(t, 5)
	d.Arm(0)
	if e := v.Unmount(); e != api.ErrDead {
		t.Errorf("Unmount = %v", e)
	}
	closed(t, "P15.14", v, api.ErrAbsent)
	d, v = holed(t, 251)
	d.Arm(0)
	if e := v.Unmount(); e != api.OK {
		t.Errorf("Unmount = %v", e)
	}
	closed(t, "P15.14", v, api.ErrAbsent)
}
