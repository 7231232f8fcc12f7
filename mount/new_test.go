package mount_test

import (
	"reflect"
	"testing"

	"furrow/api"
	"furrow/layout"
	"furrow/mount"
	"furrow/replay"
)

// refused: whether New and Mount answer this error, and nothing with it.
func refused(t *testing.T, what string, b []byte, workers int, want error) {
	t.Helper()
	if m, err := mount.New(b, workers); m != nil || !reflect.DeepEqual(err, want) {
		t.Errorf("%s: New(.., %d) = %v, %v; want %v", what, workers, m, err, want)
	}
	if st, err := mount.Mount(b, workers, []int{1, 0, 2}); !reflect.DeepEqual(st, api.State{}) || !reflect.DeepEqual(err, want) {
		t.Errorf("%s: Mount(.., %d) = %+v, %v; want %v", what, workers, st, err, want)
	}
}

// TestP12_1Workers: too few or too many workers are told ahead of all that is wrong with the image.
func TestP12_1Workers(t *testing.T) {
	good, journal, slot := formatted(t, small), formatted(t, small), formatted(t, small)
	journal.put(512, 7)
	slot.put(2048, 7)
	for _, b := range [][]byte{good.b, journal.b, slot.b, nil, {}, {1}, make([]byte, 24*512)} {
		for _, workers := range append(wild, 0) {
			refused(t, "workers", b, workers, api.ErrWorkers)
		}
	}
	for workers := 1; workers <= 64; workers++ {
		if m := machine(t, good.b, workers); m.Holds(workers-1) != 0 || m.Steps() != 0 || m.Done() {
			t.Errorf("%d workers", workers)
		}
	}
}

// TestP12_1Corrupt: a superblock or a journal that is broken, with other things that are.
func TestP12_1Corrupt(t *testing.T) {
	for _, c := range []struct {
		what  string
		spoil func(d *disk)
		want  api.CorruptError
	}{
		{"no superblock", func(d *disk) { d.b[0], d.b[64] = 0, 0 }, api.CorruptError{Reason: api.ErrSuper}},
		{"a byte less", func(d *disk) { d.b = d.b[:len(d.b)-1] }, api.CorruptError{Reason: api.ErrSuper}},
		{"a page more", func(d *disk) { d.b = append(d.b, make([]byte, 512)...) }, api.CorruptError{Reason: api.ErrSuper}},
		{"no bytes", func(d *disk) { d.b = nil }, api.CorruptError{Reason: api.ErrSuper}},
		{"no number of records", func(d *disk) { d.put(512, 7) }, api.CorruptError{Reason: api.ErrUndo, Place: 512}},
		{"no sum of the records", func(d *disk) { d.pending(chance(), 2048); d.b[576+8] ^= 1 }, api.CorruptError{Reason: api.ErrUndo, Place: 512}},
		{"a record of an inode that isn't there", func(d *disk) { d.pending(chance(), layout.SlotAt(9)) }, api.CorruptError{Reason: api.ErrUndo, Place: 512}},
		{"both", func(d *disk) { d.b[0], d.b[64] = 0, 0; d.put(512, 7) }, api.CorruptError{Reason: api.ErrSuper}},
	} {
		for _, more := range []func(d *disk){func(d *disk) {}, func(d *disk) { d.put(2048, 7) }, func(d *disk) { d.slot(1, api.Slot{}) }} {
			d := nine(t)
			more(d)
			c.spoil(d)
			for _, workers := range []int{1, 3, 64} {
				refused(t, c.what, d.b, workers, &c.want)
			}
			if _, err := replay.Replay(d.b); !reflect.DeepEqual(err, error(&c.want)) {
				t.Errorf("%s: Replay tells %v", c.what, err)
			}
		}
	}
}

// TestP12_1Superblock: the copy counts where the first line doesn't.
func TestP12_1Superblock(t *testing.T) {
	d := nine(t)
	d.b[3] ^= 1
	st, err := mount.Mount(d.b, 2, nil)
	if err != nil || !sameState(st, nineMeans()) {
		t.Errorf("%+v, %v", st, err)
	}
}

// TestP12_1OtherBreaches: whatever else is wrong with an image, there is a machine, and Result tells it.
func TestP12_1OtherBreaches(t *testing.T) {
	for _, f := range faults {
		d := family(t)
		f.spoil(d)
		m := machine(t, d.b, 3)
		for w := 0; !m.Done(); w += 2 {
			st, err := m.Result()
			plain(t, f.what, st, err, api.ErrGoing)
			m.Step(w)
		}
		st, err := m.Result()
		told(t, f.what, st, err, api.CorruptError{Reason: f.e, Place: f.place})
	}
}

// TestP12_1Journal: the image is taken as it is with its journal rolled back.
func TestP12_1Journal(t *testing.T) {
	d := nine(t)
	d.pending(chance(), 2048, 2056, 2064, layout.SlotAt(8))
	m := machine(t, d.b, 2)
	for w := range 10 {
		if !m.Step(w / 3) {
			t.Error("no piece")
		}
	}
	if st, err := m.Result(); err != nil || !sameState(st, nineMeans()) {
		t.Errorf("%+v, %v", st, err)
	}
}

// TestP12_1Copy: what happens to the image's bytes behind New isn't seen, whenever it happens.
func TestP12_1Copy(t *testing.T) {
	for when := range 11 {
		d := nine(t)
		m := machine(t, d.b, 2)
		for i := range 10 {
			if i == when {
				chance().Read(d.b)
			}
			m.Step(i / 2)
		}
		if when == 10 {
			clear(d.b)
		}
		if st, err := m.Result(); err != nil || !sameState(st, nineMeans()) {
			t.Errorf("changed at %d: %+v, %v", when, st, err)
		}
	}
}
