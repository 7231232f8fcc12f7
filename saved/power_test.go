package saved_test

import (
	"bytes"
	"math/rand"
	"testing"

	"furrow/api"
	"furrow/saved"
)

// cutAnywhere: P13.6 of a Save on a device that has these bytes, durable, and the clean word 0.
func cutAnywhere(t *testing.T, r *rand.Rand, sh api.Shape, b []byte, list []api.Span, most int) {
	t.Helper()
	whole := load(t, b)
	saves(t, "whole", whole, list, true, api.OK)
	for cut := 0; cut <= whole.Steps(); cut++ {
		d := load(t, b)
		d.Arm(cut)
		was, _ := saved.Save(d, list)
		for _, left := range everyCrash(r, d, most) {
			l, e := saved.Restore(left, api.State{Shape: sh, Free: list})
			if e == api.ErrAbsent && was || e != api.ErrAbsent && e != api.OK {
				t.Fatalf("%v cut at %d (Save answered %v): Restore = %v, %v", list, cut, was, l, e)
			}
			if !bytes.Equal(outside(left), outside(b)) {
				t.Fatalf("%v cut at %d: bytes elsewhere have changed", list, cut)
			}
		}
	}
}

func TestP13_6EveryCut(t *testing.T) {
	r := chance()
	for _, l := range [][]api.Span{nil, spans(5, 19), spans(5, 3, 9, 15), spans(5, 1, 7, 1, 9, 1, 11, 13)} {
		cutAnywhere(t, r, small, image(small), l, 1<<10)
		cutAnywhere(t, r, small, filled(r, small), l, 1<<10)
		cutAnywhere(t, r, small, recorded(t, filled(r, small), 7, l), l, 1<<10)
		cutAnywhere(t, r, small, recorded(t, filled(r, small), 7, spans(5, 3)), l, 1<<10)
	}
	cutAnywhere(t, r, small, recorded(t, filled(r, small), 7, apart(200)), apart(249), 20)
	cutAnywhere(t, r, large, filled(r, large), apart(13), 20)
	for range 20 {
		cutAnywhere(t, r, middling, recorded(t, filled(r, middling), 1+r.Uint32()>>1, drawn(r, 60, 249)), drawn(r, 60, 249), 20)
	}
}

// TestP13_6Believed: a Save where the clean word isn't 0, cut: the record that was there is found, or none, or the new one; never a mixture.
func TestP13_6Believed(t *testing.T) {
	r := chance()
	for range 20 {
		was, list := drawn(r, 24, 249), drawn(r, 24, 249)
		b := unmounted(t, r, small, 7, was)
		for cut := range len(saving(7, 8, list)) {
			d := load(t, b)
			d.Arm(cut)
			saves(t, "believed", d, list, false, api.ErrDead)
			for _, left := range everyCrash(r, d, 40) {
				_, before := saved.Restore(left, api.State{Shape: small, Free: was})
				_, behind := saved.Restore(left, api.State{Shape: small, Free: list})
				if before != api.OK && behind != api.OK && (before != api.ErrAbsent || behind != api.ErrAbsent) {
					t.Fatalf("%v over %v cut at %d: %v, %v", list, was, cut, before, behind)
				}
				if !bytes.Equal(outside(left), outside(b)) {
					t.Fatalf("%v over %v cut at %d: bytes elsewhere have changed", list, was, cut)
				}
			}
		}
	}
}

func TestP13_6Forget(t *testing.T) {
	r := chance()
	for range 20 {
		l := drawn(r, 60, 249)
		b := unmounted(t, r, middling, 7, l)
		d := load(t, b)
		for range r.Intn(4) { // the clean word and others in doubt
			d.Store([]int{128, 136, 1024, 2048}[r.Intn(4)], r.Uint64())
		}
		now := d.View()
		forgets(t, "P13.6", d, api.OK)
		for _, left := range everyCrash(r, d, 40) {
			restores(t, "behind Forget", left, middling, l, api.ErrAbsent)
			restores(t, "behind Forget", left, middling, nil, api.ErrAbsent)
		}
		put(now, 128, 0)
		if !bytes.Equal(d.View(), now) {
			t.Error("Forget changed more than the clean word")
		}
		for cut := range 3 {
			d := load(t, b)
			d.Arm(cut)
			forgets(t, "P13.6", d, api.ErrDead)
			for _, left := range everyCrash(r, d, 40) {
				if e := agrees(t, "amid Forget", left, api.State{Shape: middling, Free: l}); e != api.OK && e != api.ErrAbsent {
					t.Errorf("amid Forget: %v", e)
				}
			}
		}
	}
}

// TestP13_6AgainAndAgain: saves and forgets in turn, cut and begun anew; a record that is believed is always a whole one.
func TestP13_6AgainAndAgain(t *testing.T) {
	r := chance()
	b := image(small)
	known := [][]api.Span{}
	for range 300 {
		d := load(t, b)
		if r.Intn(3) > 0 {
			d.Arm(r.Intn(20))
		}
		if r.Intn(4) == 0 {
			saved.Forget(d)
		} else {
			l := drawn(r, 24, 249)
			known = append(known, l)
			saved.Save(d, l)
		}
		crashes := everyCrash(r, d, 20)
		b = crashes[r.Intn(len(crashes))]
		_, e := saved.Restore(b, api.State{Shape: small, Free: []api.Span{{}}})
		if e == api.ErrAbsent {
			continue
		}
		found := false
		for _, l := range known {
			_, e := saved.Restore(b, api.State{Shape: small, Free: l})
			found = found || e == api.OK
		}
		if !found {
			t.Fatalf("a clean word that names no record that was saved: %v", e)
		}
	}
}
