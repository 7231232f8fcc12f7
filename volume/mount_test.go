package volume_test

import (
	"errors"
	"math/rand"
	"reflect"
	"testing"

	"furrow/api"
	"furrow/codec"
	"furrow/journal"
	"furrow/layout"
	"furrow/pmem"
	"furrow/replay"
	"furrow/saved"
	"furrow/volume"
)

// worked: a volume with files and directories of all sorts, left as it is, without an unmount.
func worked(t *testing.T, r *rand.Rand, s api.Super, transactions int) (*pmem.Device, *volume.Volume) {
	t.Helper()
	d, v := fresh(t, s)
	for range transactions {
		if e := v.Do(drawnEdits(r, v.State())); e != api.OK && e != api.ErrNoSpace && e != api.ErrEdit {
			t.Fatal("Do", e)
		}
	}
	return d, v
}

// unmounted: the bytes of such a volume behind its Unmount.
func unmounted(t *testing.T, r *rand.Rand, s api.Super, transactions int) []byte {
	t.Helper()
	d, v := worked(t, r, s, transactions)
	if e := v.Unmount(); e != api.OK {
		t.Fatal("Unmount", e)
	}
	return d.View()
}

// undone: an image whose table was changed, with a journal that puts it back.
func undone(t *testing.T, r *rand.Rand, image []byte) []byte {
	t.Helper()
	var list []api.Undo
	sh, _ := layout.FindSuper(image)
	for _, i := range r.Perm(3 * sh.Inodes)[:1+r.Intn(8)] {
		at := 2048 + i/3*64 + i%3*8
		old, _ := codec.Word(image, at)
		list = append(list, api.Undo{At: at, Old: old})
		put(image, at, r.Uint64())
	}
	b, e := layout.PackUndo(list)
	if e != api.OK {
		t.Fatal("PackUndo", e)
	}
	copy(image[512:], b)
	return image
}

// settling: P15.2's third step, on a device of its own.
func settling(m *pmem.Device) api.Errno {
	if list, _ := journal.Pending(m.View()); len(list) > 0 {
		if _, e := journal.Recover(m); e != api.OK {
			return e
		}
	}
	if w, _ := m.Word(128); w != 0 {
		return saved.Forget(m)
	}
	return api.OK
}

// mountsAs: whether Mount of these bytes is what P15.2 says, whole, and cut behind each of its steps.
func mountsAs(t *testing.T, what string, image []byte, steps int) *volume.Volume {
	t.Helper()
	want := replayed(t, image)
	_, why := saved.Restore(image, want)
	var v *volume.Volume
	for cut := 0; cut <= steps; cut++ {
		d, m := load(t, image), load(t, image)
		d.Arm(cut)
		m.Arm(cut)
		w, err := volume.Mount(d, 1+cut%64, []int{cut, -cut})
		no := settling(m)
		alike(t, what, d, m)
		if cut < steps {
			if no != api.ErrDead || w != nil || err != api.ErrDead {
				t.Fatalf("%s, cut at %d of %d: %v, %v", what, cut, steps, w, err)
			}
			continue
		}
		if w == nil || err != nil || d.Steps() != steps || w.Why() != why || !sameState(w.State(), want) || word(t, d, 128) != 0 {
			t.Fatalf("%s: %v, %d steps, Why %v; want %v", what, err, d.Steps(), w.Why(), why)
		}
		if list, e := journal.Pending(d.View()); e != api.OK || len(list) > 0 {
			t.Fatalf("%s: a journal is left: %v, %v", what, list, e)
		}
		holds(t, what, d, w)
		v = w
	}
	return v
}

// recovery: how many steps the recovery of an image's journal has.
func recovery(image []byte) int {
	list, _ := journal.Pending(image)
	if len(list) == 0 {
		return 0
	}
	lines := map[int]bool{}
	for _, u := range list {
		lines[u.At/64] = true
	}
	return len(list) + len(lines) + 1 + 3
}

func TestP15_2Steps(t *testing.T) {
	r := chance()
	for _, s := range []api.Super{small, middling, tight} {
		for range 6 {
			image := unmounted(t, r, s, 20)
			mountsAs(t, "a clean one", image, 3)
			crashed := undone(t, r, image)
			mountsAs(t, "a clean one with a journal", crashed, recovery(crashed)+3)
			put(crashed, 128, 0)
			mountsAs(t, "a journal", crashed, recovery(crashed))
			d, _ := worked(t, r, s, 20)
			image = d.View()
			mountsAs(t, "as it was left", image, 0)
			for _, w := range []uint64{7, 1 << 63, codec.Seal(136, 7), codec.Seal(128, 7), codec.Seal(128, 1<<32-1)} {
				put(image, 128, w)
				mountsAs(t, "some clean word", image, 3)
			}
		}
	}
}

// TestP15_3Why: each of its answers; the state is the same.
func TestP15_3Why(t *testing.T) {
	r := chance()
	image := unmounted(t, r, small, 20)
	change := func(f func(b []byte)) []byte {
		b := append([]byte(nil), image...)
		f(b)
		return b
	}
	st := replayed(t, image)
	other, _ := layout.PackSaved(api.Saved{Stamp: 1, Spans: []api.Span{{From: 5, Count: 1}}})
	for _, c := range []struct {
		image []byte
		why   api.Errno
		steps int
	}{
		{image, api.OK, 3},
		{change(func(b []byte) { put(b, 128, 0) }), api.ErrAbsent, 0},
		{change(func(b []byte) { b[130] ^= 4 }), api.ErrAbsent, 3},
		{change(func(b []byte) { b[1024] ^= 1 }), api.ErrSaved, 3},
		{change(func(b []byte) { put(b, 128, codec.Seal(128, 2)) }), api.ErrStale, 3},
		{change(func(b []byte) { copy(b[1024:], other) }), api.ErrDiffers, 3},
	} {
		v := mountsAs(t, "P15.3", c.image, c.steps)
		if v.Why() != c.why || !sameState(v.State(), st) {
			t.Errorf("Why = %v; want %v", v.Why(), c.why)
		}
		v.Do([]api.Edit{says(1, add("late", 8)), newFile(8)})
		if v.Why() != c.why {
			t.Errorf("Why = %v behind a Do; want %v", v.Why(), c.why)
		}
		v.Unmount()
		closed(t, "P15.3", v, c.why)
	}
}

// TestP15_2Refused: no step is done, on a dead device too; the workers are asked ahead of the bytes.
func TestP15_2Refused(t *testing.T) {
	r := chance()
	for _, workers := range append(wild, 65) {
		if workers >= 1 && workers <= 64 {
			continue
		}
		for _, image := range [][]byte{unmounted(t, r, small, 5), make([]byte, 512), make([]byte, 24*512)} {
			d := load(t, image)
			still(t, "P15.2", d, func() {
				if v, err := volume.Mount(d, workers, nil); v != nil || err != api.ErrWorkers {
					t.Errorf("Mount by %d: %v, %v", workers, v, err)
				}
			})
		}
	}
	for range 200 {
		image := undone(t, r, unmounted(t, r, small, 5))
		for range 1 + r.Intn(8) {
			image[oneOf(r, []int{r.Intn(128), 512 + r.Intn(200), 2048 + r.Intn(300), 5*512 + r.Intn(1024)})] ^= byte(1 << r.Intn(8))
		}
		_, want := replay.Replay(image)
		if want == nil {
			continue
		}
		d := load(t, image)
		if r.Intn(2) == 0 {
			d.Arm(0)
		}
		still(t, "P15.2", d, func() {
			v, err := volume.Mount(d, 1+r.Intn(64), []int{r.Int(), -r.Int()})
			if v != nil || !reflect.DeepEqual(err, want) || !errors.Is(err, api.ErrCorrupt) {
				t.Errorf("Mount: %v, %v; want %v", v, err, want)
			}
		})
	}
}

// TestP15_2Doubts: a device with words in doubt is mounted by what they are now.
func TestP15_2Doubts(t *testing.T) {
	d, v := fresh(t, small)
	does(t, v, api.OK, says(1, add("a", 2)), newFile(2))
	tail := word(t, d, 2048+16)
	d.Store(2048+16, 7)
	if w, err := volume.Mount(d, 1, nil); w != nil || !errors.Is(err, api.ErrCorrupt) {
		t.Errorf("Mount of a spoilt tail: %v", err)
	}
	d.Store(2048+16, tail)
	d.Store(6*512, 7)
	d.Flush(6 * 512)
	w := mounts(t, d)
	if ino, _ := w.Look(1, "a"); ino != 2 || len(d.Doubts()) != 2 {
		t.Errorf("Look = %d; doubts %v", ino, d.Doubts())
	}
	does(t, w, api.OK, says(1, add("b", 2)), api.Edit{Ino: 2, Links: 2, Fills: fills(9, 0), Size: 5})
	if l := d.Doubts(); len(l) != 0 { // both were stored or flushed since
		t.Errorf("doubts %v", l)
	}
	d.Store(4*512-8, 7) // a word that no Do comes near
	w = mounts(t, d)
	does(t, w, api.OK, says(2, size(6)))
	if l := d.Doubts(); len(l) != 1 || l[0].At != 4*512-8 {
		t.Errorf("doubts %v", l)
	}
}

// TestP15_2Dead: a mount that has nothing to write goes well on a dead device, and what looks does.
func TestP15_2Dead(t *testing.T) {
	d, v := example(t, 5)
	st := v.State()
	d.Arm(0)
	w := mounts(t, d)
	if !sameState(w.State(), st) {
		t.Errorf("State = %+v; want %+v", w.State(), st)
	}
	does(t, w, api.OK, api.Edit{Ino: 1})
	if _, e := w.Node(1); e != api.OK {
		t.Errorf("Node(1): %v", e)
	}
	does(t, w, api.ErrDead, says(1, add("late", 8)), newFile(8))
	closed(t, "P15.12", w, api.ErrAbsent)
}
