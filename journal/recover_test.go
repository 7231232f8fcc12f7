package journal_test

import (
	"fmt"
	"testing"

	"furrow/api"
	"furrow/journal"
	"furrow/pmem"
)

func recovers(t *testing.T, what string, d *pmem.Device, n int, f api.Errno) {
	t.Helper()
	if got, e := journal.Recover(d); got != n || e != f {
		t.Errorf("%s: Recover = %d, %v, want %d, %v", what, got, e, n, f)
	}
}

func TestP4_6Refused(t *testing.T) {
	for _, j := range journals {
		for _, armed := range []int{-1, 0, 5} {
			b := image(small)
			copy(b[512:], j.page)
			want := api.ErrUndo
			switch {
			case j.empty:
				want = api.OK
			case j.name == "one record" || j.name == "eight records":
				continue
			}
			d := load(t, b)
			d.Arm(armed)
			still(t, j.name, d, func() { recovers(t, j.name, d, 0, want) })
			b[0] ^= 1
			b[64] ^= 1
			d = load(t, b)
			d.Arm(armed)
			still(t, j.name, d, func() { recovers(t, j.name, d, 0, api.ErrSuper) })
		}
	}
	for _, pages := range []int{1, 2, 24, 1024} {
		d := load(t, make([]byte, 512*pages))
		still(t, "zeros", d, func() { recovers(t, "zeros", d, 0, api.ErrSuper) })
	}
}

// cutRecovery: a Recover on a device as made makes it, dead behind every number of steps, is what P4.6's steps are up to there.
func cutRecovery(t *testing.T, list []api.Undo, made func() *pmem.Device) {
	t.Helper()
	acts := recovering(made().Size(), list)
	for left := 0; left <= len(acts)+1; left++ {
		what := fmt.Sprintf("%v with %d steps left", list, left)
		n, want := 0, api.ErrDead
		if left >= len(acts) {
			n, want = len(list), api.OK
		}
		d, m := made(), made()
		d.Arm(left)
		recovers(t, what, d, n, want)
		play(t, m, acts[:min(left, len(acts))])
		alike(t, what, d, m)
	}
}

func TestP4_6Steps(t *testing.T) {
	r := chance()
	for _, list := range sketched {
		var old []api.Undo
		for _, c := range list {
			old = append(old, api.Undo{At: c.At, Old: c.New})
		}
		zeros, noise := journaled(image(small), old...), journaled(filled(r, small), old...)
		cutRecovery(t, old, func() *pmem.Device { return load(t, zeros) })
		cutRecovery(t, old, func() *pmem.Device { return load(t, noise) })
	}
}

func drawnUndos(sh api.Shape, n int) []api.Undo {
	r := chance()
	all := tableWords(sh)
	var list []api.Undo
	for _, i := range r.Perm(len(all))[:n] {
		list = append(list, api.Undo{At: all[i], Old: r.Uint64()})
	}
	return list
}

func TestP4_6DrawnSteps(t *testing.T) {
	r := chance()
	for round := range 80 {
		sh := []api.Shape{small, middling}[round%2]
		list := drawnUndos(sh, 1+round%8)
		b := journaled(filled(r, sh), list...)
		cutRecovery(t, list, func() *pmem.Device { return load(t, b) })
	}
	list := drawnUndos(large, 8)
	b := journaled(filled(r, large), list...)
	cutRecovery(t, list, func() *pmem.Device { return load(t, b) })
}

// TestP4_6TheView: what counts is what the words are now, whatever of it is durable.
func TestP4_6TheView(t *testing.T) {
	r := chance()
	list := drawnUndos(small, 4)
	for range 40 {
		b, ahead := filled(r, small), doubtful(r, small)
		made := func() *pmem.Device {
			d := load(t, b)
			play(t, d, ahead)
			d.Write(512, undoPage(list))
			return d
		}
		cutRecovery(t, list, made)
	}
	d := load(t, journaled(image(small), list...))
	d.Store(512, 0) // the durable word has the records still
	still(t, "records that are gone", d, func() { recovers(t, "records that are gone", d, 0, api.OK) })
	d = load(t, image(small))
	d.Write(0, make([]byte, 128))
	still(t, "a superblock that is gone", d, func() { recovers(t, "a superblock that is gone", d, 0, api.ErrSuper) })
}

func TestP4_6Again(t *testing.T) {
	for n := 1; n <= 8; n++ {
		list := drawnUndos(middling, n)
		d := load(t, journaled(image(middling), list...))
		recovers(t, "first", d, n, api.OK)
		for _, u := range list {
			if w, _ := d.Word(u.At); w != u.Old {
				t.Errorf("%d records: %d is %x", n, u.At, w)
			}
		}
		if len(d.Doubts()) != 0 {
			t.Errorf("%d records: doubts %v", n, d.Doubts())
		}
		still(t, "again", d, func() { recovers(t, "again", d, 0, api.OK) })
		commits(t, d, middling, changes(2048, 2056))
	}
}

// TestP4_6ADeadDevice: with nothing to do, it isn't told.
func TestP4_6ADeadDevice(t *testing.T) {
	d := load(t, image(small))
	d.Arm(0)
	recovers(t, "no records", d, 0, api.OK)
	d = load(t, journaled(image(small), drawnUndos(small, 2)...))
	d.Arm(0)
	still(t, "records", d, func() { recovers(t, "records", d, 0, api.ErrDead) })
}
