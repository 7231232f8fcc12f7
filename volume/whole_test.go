package volume_test

import (
	"bytes"
	"errors"
	"math/rand"
	"reflect"
	"testing"

	"furrow/api"
	"furrow/codec"
	"furrow/layout"
	"furrow/replay"
	"furrow/volume"
)

func somePicks(r *rand.Rand) []int {
	var list []int
	for range r.Intn(60) {
		list = append(list, r.Int()-r.Int())
	}
	return list
}

// TestT3Schedules: every number of workers, any picks: one answer, Replay's.
func TestT3Schedules(t *testing.T) {
	r := chance()
	for _, s := range []api.Super{small, middling, tight} {
		good := undone(t, r, unmounted(t, r, s, 30))
		bad := bytes.Clone(good)
		bad[2048+64*2] ^= 1
		copy(bad[512:], make([]byte, 8))
		for _, image := range [][]byte{good, bad} {
			want, breach := replay.Replay(image)
			for workers := 1; workers <= 64; workers++ {
				v, err := volume.Mount(load(t, image), workers, somePicks(r))
				switch {
				case breach == nil && (err != nil || !sameState(v.State(), want)):
					t.Fatalf("%d workers: %v", workers, err)
				case breach != nil && (v != nil || !reflect.DeepEqual(err, breach)):
					t.Fatalf("%d workers: %v; want %v", workers, err, breach)
				}
			}
		}
	}
}

// TestT4AgainAndAgain: mounts that are cut, each of what the one before left.
func TestT4AgainAndAgain(t *testing.T) {
	r := chance()
	for range 30 {
		image := undone(t, r, unmounted(t, r, middling, 20))
		want := replayed(t, image)
		for range 12 {
			d := load(t, image)
			d.Arm(r.Intn(24))
			v, err := volume.Mount(d, 1+r.Intn(64), somePicks(r))
			if err != nil && err != api.ErrDead || err == nil && !sameState(v.State(), want) {
				t.Fatalf("Mount: %v", err)
			}
			crashes := everyCrash(r, d, 6)
			image = crashes[r.Intn(len(crashes))]
			if st := replayed(t, image); !sameState(st, want) {
				t.Fatalf("the bytes mean %+v; want %+v", st, want)
			}
		}
		if v := mounts(t, load(t, image)); !sameState(v.State(), want) {
			t.Fatalf("State = %+v; want %+v", v.State(), want)
		}
	}
}

// TestT5Clean: a clean unmount's record is taken as long as it says what is free, whatever else is on the device; without it the state is the same.
func TestT5Clean(t *testing.T) {
	r := chance()
	for _, s := range []api.Super{small, middling, tight, large} {
		image := unmounted(t, r, s, 30)
		st := replayed(t, image)
		if v := mounts(t, load(t, image)); v.Why() != api.OK || !sameState(v.State(), st) {
			t.Errorf("Why = %v", v.Why())
		}
		for range 60 {
			b := bytes.Clone(image)
			at := oneOf(r, []int{128, 128, 1024, 1024 + 16, 1024 + 24})
			b[at+r.Intn(8)] ^= byte(1 << r.Intn(8))
			v := mounts(t, load(t, b))
			if !sameState(v.State(), st) || at == 128 && v.Why() != api.ErrAbsent {
				t.Errorf("a bit of %d turned: Why = %v", at, v.Why())
			}
		}
		d := load(t, image)
		mounts(t, d)                                     // and left without an unmount
		if v := mounts(t, d); v.Why() != api.ErrAbsent { // the record is there, but isn't believed
			t.Errorf("Why = %v", v.Why())
		}
	}
}

// sound: what T6 says of a state.
func sound(t *testing.T, st api.State) {
	t.Helper()
	owned, e := replay.Owners(st.Shape, st.Nodes)
	if e != api.OK || len(owned)+countOf(st.Free) != st.Shape.Pages-st.Shape.Data {
		t.Errorf("%d pages are owned (%v), %d are free", len(owned), e, countOf(st.Free))
	}
	for _, p := range owned {
		for _, f := range st.Free {
			if f.From <= p && p < f.From+f.Count {
				t.Errorf("page %d is owned and free", p)
			}
		}
	}
	if e, ino := replay.Judge(st.Shape, st.Nodes); e != api.OK {
		t.Errorf("Judge: %v, %d", e, ino)
	}
}

// resealed: an image with a word of the table changed, and sealed for its place.
func resealed(r *rand.Rand, image []byte) {
	sh, _ := layout.FindSuper(image)
	if sh.Inodes == 0 {
		return
	}
	at := 2048 + 64*r.Intn(sh.Inodes) + 8*r.Intn(3)
	put(image, at, codec.Seal(at, uint32(oneOf(r, []int{0, 257, 258, 513, 2688, 3072, 64 * r.Intn(500), r.Intn(30)}))))
}

// TestT6AnyBytes: a mount of bytes that were spoilt, or are anything at all, says so and writes nothing, or gives a sound state that goes on.
func TestT6AnyBytes(t *testing.T) {
	r := chance()
	good, bad := 0, 0
	for i := range 1500 {
		image := unmounted(t, r, []api.Super{small, tight, middling}[i%3], 8)
		switch i % 5 {
		case 0:
			r.Read(image[128:])
		case 1:
			image = undone(t, r, image)
		}
		for range r.Intn(3) {
			resealed(r, image)
		}
		for range r.Intn(4) {
			image[r.Intn(len(image))] ^= byte(1 << r.Intn(8))
		}
		d := load(t, image)
		v, err := volume.Mount(d, 1+r.Intn(64), somePicks(r))
		if err != nil {
			bad++
			var c *api.CorruptError
			if v != nil || !errors.As(err, &c) || d.Steps() != 0 || !bytes.Equal(d.View(), image) {
				t.Fatalf("Mount: %v, %v, %d steps", v, err, d.Steps())
			}
			continue
		}
		good++
		sound(t, v.State())
		for range 3 {
			v.Do(drawnEdits(r, v.State()))
			holds(t, "T6", d, v)
		}
		sound(t, v.State())
	}
	if good < 200 || bad < 200 {
		t.Errorf("%d good ones, %d bad ones", good, bad)
	}
}

// TestP15_12OtherImages: an image that no Format made, with a chain of log pages in any order and pages of files anywhere, is taken as it is, and goes on.
func TestP15_12OtherImages(t *testing.T) {
	r := chance()
	for range 30 {
		d, v := worked(t, r, middling, 60)
		for _, n := range ofKind(v.State(), api.KindFile) {
			v.Do([]api.Edit{says(n.Ino, size(0))})
		}
		m := load(t, d.View())
		w := mounts(t, m)
		for range 20 {
			edits := drawnEdits(r, v.State())
			if e := v.Do(edits); e != w.Do(edits) {
				t.Fatalf("Do(%s) = %v on one volume, and not on one that was mounted later", text(edits), e)
			}
			if !bytes.Equal(d.View(), m.View()) || !sameState(v.State(), w.State()) {
				t.Fatal("two volumes of the same bytes go apart")
			}
		}
	}
}
