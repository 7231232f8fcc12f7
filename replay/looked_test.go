package replay_test

import (
	"math/rand"
	"testing"

	"furrow/api"
	"furrow/journal"
	"furrow/layout"
)

// unlooked: the places of P11.6, as pieces of the image from an address up to another.
func unlooked(t *testing.T, d *disk, st api.State) [][2]int {
	t.Helper()
	list := [][2]int{{128, 512}, {1024, 2048}}
	undos, e := journal.Pending(d.b)
	switch {
	case e != api.OK:
		t.Fatal(e)
	case len(undos) == 0:
		list = append(list, [2]int{520, 1024})
	default:
		list = append(list, [2]int{528, 576}, [2]int{576 + 16*len(undos), 1024})
	}
	for _, s := range st.Free {
		list = append(list, [2]int{512 * s.From, 512 * (s.From + s.Count)})
	}
	for _, n := range st.Nodes {
		for _, r := range n.Map {
			list = append(list, [2]int{512 * r.Page, 512 * (r.Page + r.Count)})
		}
		if n.Tail > 0 {
			last := n.Log[len(n.Log)-1]
			list = append(list, [2]int{n.Tail, 512 * (last + 1)})
		}
	}
	for ino := 1; ino <= d.sh.Inodes; ino++ {
		list = append(list, [2]int{layout.SlotAt(ino) + 24, layout.SlotAt(ino) + 64})
	}
	return list
}

// scribble fills pieces of an image with anything, with zeros, or with what stands elsewhere on it.
func scribble(r *rand.Rand, b []byte, pieces ...[2]int) {
	for _, p := range pieces {
		piece := b[p[0]:p[1]]
		switch r.Intn(4) {
		case 0:
			clear(piece)
		case 1:
			copy(piece, b[512*r.Intn(len(b)/512):])
		default:
			r.Read(piece)
		}
	}
}

// TestP11_6Unlooked: what hasn't to be looked at may change, each piece for itself and all of them.
func TestP11_6Unlooked(t *testing.T) {
	r := chance()
	for round := range 60 {
		d, want := drawn(t, r, []api.Shape{small, middling}[round%2], 14)
		if r.Intn(2) == 0 {
			d.pending(r, tableWords(r, d.sh, 1+r.Intn(8))...)
		}
		pieces := unlooked(t, d, want)
		for _, p := range pieces {
			c := d.copied()
			scribble(r, c.b, p)
			means(t, "one piece", c.b, want)
		}
		for range 5 {
			scribble(r, d.b, pieces...)
			means(t, "all pieces", d.b, want)
		}
	}
}

// TestP11_6Pages: the bytes of a log, whole, in free pages and in data pages of files mean nothing there; nor do entries that go on behind the tail.
func TestP11_6Pages(t *testing.T) {
	d := four(t)
	d.log(2, api.KindFile, 2, []int{12}, write(0, 2, 13, 600))
	want, reason, _ := modelReplay(t, d.b)
	if reason != api.OK {
		t.Fatal(reason)
	}
	for _, page := range []int{5, 13, 14, 23} {
		copy(d.b[512*page:], d.b[512*9:512*10])
		means(t, "a copy of a log page", d.b, want)
		d.hold(512*page+8, 2)
		means(t, "a log page of file 2", d.b, want)
	}
	e := add("c", 2)
	e.Seq = 3
	d.line(9, 3, e)
	means(t, "an entry behind the tail", d.b, want)
	d.hold(9*512, 5)
	means(t, "a next page behind the last", d.b, want)
	d.put(9*512, 7)
	means(t, "no word that is sealed there", d.b, want)
}

// TestP11_6Overlay: an image and its overlay mean the same, sound or not.
func TestP11_6Overlay(t *testing.T) {
	r := chance()
	for round := range 100 {
		d, want := drawn(t, r, []api.Shape{small, middling}[round%2], 10)
		sound := round%3 > 0
		if !sound {
			d = spoilt(r, spoilt(r, d))
			d.put(512, 0)
		}
		d.pending(r, tableWords(r, d.sh, 1+r.Intn(8))...)
		over, e := journal.Overlay(d.b)
		if e != api.OK {
			continue
		}
		again, e := journal.Overlay(over)
		if e != api.OK {
			t.Fatal(e)
		}
		st, reason, place := modelReplay(t, d.b)
		for _, b := range [][]byte{d.b, over, again} {
			switch {
			case sound:
				means(t, "sound", b, want)
			case reason == api.OK:
				means(t, "spoilt, and good", b, st)
			default:
				corrupt(t, "spoilt", b, reason, place)
			}
		}
	}
}

// TestP11_6Clean: the clean word and the saved record aren't asked, whatever they say.
func TestP11_6Clean(t *testing.T) {
	d := four(t)
	rec, e := layout.PackSaved(api.Saved{Stamp: 9, Spans: []api.Span{{From: 7, Count: 2}}})
	if e != api.OK {
		t.Fatal(e)
	}
	copy(d.b[1024:], rec)
	d.hold(128, 9)
	means(t, "another record", d.b, fourMeans())
	d.put(128, 77)
	means(t, "a broken clean word", d.b, fourMeans())
}
