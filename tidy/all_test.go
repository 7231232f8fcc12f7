package tidy_test

import (
	"bytes"
	"testing"

	"furrow/api"
	"furrow/archive"
	"furrow/fs"
	"furrow/pmem"
	"furrow/tidy"
	"furrow/volume"
)

// TestP24_3Nothing: volumes in which nothing is to be done.
func TestP24_3Nothing(t *testing.T) {
	for _, s := range []api.Super{small, middling, tight, large} {
		d, v := fresh(t, s, 0)
		still(t, "the root alone", d, v, func() { all(t, v, 0, api.OK) })
		dir := makes(t, v, 1, "dir", api.KindDir)
		ino := makes(t, v, dir, "file", api.KindFile)
		still(t, "a file without pages", d, v, func() { all(t, v, 0, api.OK) })
		writes(t, v, ino, 0, page('a')+page('b'))
		still(t, "a file in one run", d, v, func() { all(t, v, 0, api.OK) })
		d.Arm(0)
		all(t, v, 0, api.OK)
		spread(t, v, 1)
	}
}

// woven: four files, one below a directory, have eight pages each, written in turn; each has a hole.
func woven(t *testing.T) (*pmem.Device, *volume.Volume) {
	t.Helper()
	d, v := fresh(t, api.Super{Pages: 120, Inodes: 16, Cores: 2}, 3)
	dir := makes(t, v, 1, "dir", api.KindDir)
	makes(t, v, dir, "d", api.KindFile)
	for i := range 8 {
		for _, ino := range []int{2, 3, 4, 6} {
			writes(t, v, ino, 512*(i+i/ino), page(byte(16*ino+i)))
		}
	}
	return d, v
}

// TestP24_3Woven: as many as find a better place.
func TestP24_3Woven(t *testing.T) {
	d, v := woven(t)
	was, w, sum := seenOf(t, v), twinOf(t, d), tidy.Spread(v)
	n, e, rounds := allBeside(t, d, v, w)
	if n < 2 || e != api.OK || rounds < 2 || tidy.Spread(v) > sum-n {
		t.Fatalf("All = %d, %v by %d rounds; the spread was %d, is %d", n, e, rounds, sum, tidy.Spread(v))
	}
	same(t, "woven", v, was)
	meant(t, "woven", d, v)
	still(t, "All again", d, v, func() { all(t, v, 0, api.OK) })
}

// TestP24_3ThirdRound: what b lets go in the first round makes a better offer to a in the second; the third changes nothing.
func TestP24_3ThirdRound(t *testing.T) {
	d, v := fresh(t, small, 3)
	for _, off := range []int{2, 1, 0, 2} { // pages 6, 8, 9, 10: 6 is free again
		writes(t, v, 3, 512*off, page('b'))
	}
	writes(t, v, 2, 0, page('a'))
	writes(t, v, 4, 0, page('c'))
	writes(t, v, 2, 512, page('a'))
	writes(t, v, 4, 2560, page('c')) // page 15 ..
	writes(t, v, 4, 2560, page('d')) // .. which is free again
	maps(t, v, 2, 0, 6, 1, 1, 14, 1)
	maps(t, v, 3, 0, 9, 1, 1, 8, 1, 2, 10, 1)
	maps(t, v, 4, 0, 12, 1, 5, 16, 1)
	free(t, v, 15, 1, 17, 7)
	stays(t, "a, as long as b is where it is", d, v, 2)
	was := seenOf(t, v)
	all(t, v, 2, api.OK)
	maps(t, v, 2, 0, 8, 2)
	maps(t, v, 3, 0, 15, 1, 1, 17, 2)
	maps(t, v, 4, 0, 12, 1, 5, 16, 1)
	free(t, v, 6, 1, 10, 1, 14, 1, 19, 5)
	same(t, "the third round", v, was)
}

// TestP24_3Rising: there is room for one of two files alone: the one of the smaller number has it.
func TestP24_3Rising(t *testing.T) {
	d, v := fresh(t, small, 3)
	for i := range 3 {
		writes(t, v, 3, 512*i, page('b'))
		writes(t, v, 2, 512*i, page('a'))
	}
	takes(t, v, 4, 3)
	free(t, v, 21, 3)
	all(t, v, 1, api.OK)
	maps(t, v, 2, 0, 21, 3)
	maps(t, v, 3, 0, 6, 1, 1, 10, 1, 2, 12, 1)
	meant(t, "rising", d, v)
}

// TestP24_3Dead: a device that dies amid All: whatever Files answered true before, the answer is 0.
func TestP24_3Dead(t *testing.T) {
	d, v := woven(t)
	before := d.Steps()
	if n, e := tidy.All(v); n < 2 || e != api.OK {
		t.Fatalf("All = %d, %v", n, e)
	}
	whole := d.Steps() - before
	for n := 0; n <= whole; n += 37 {
		deadAmid(t, n, true)
	}
	deadAmid(t, whole-1, true)
	deadAmid(t, whole, false)
}

func deadAmid(t *testing.T, n int, dies bool) {
	t.Helper()
	d, v := woven(t)
	w := twinOf(t, d)
	d.Arm(n)
	w.d.Arm(n)
	_, e, _ := allBeside(t, d, v, w)
	if (e == api.ErrDead) != dies {
		t.Fatalf("dead behind %d steps: All answers %v", n, e)
	}
	if dies {
		closed(t, "dead", v)
	}
}

// TestT8Packed: the tree packs to the same bytes.
func TestT8Packed(t *testing.T) {
	r := chance()
	for range 8 {
		d, v := lived(t, r, api.Super{Pages: 200, Inodes: 40, Cores: 3}, 200, false)
		was := packed(t, d.View())
		n, e := tidy.All(v)
		if e != api.OK {
			t.Fatal("All", e)
		}
		if !bytes.Equal(packed(t, d.View()), was) {
			t.Errorf("behind %d Files the tree packs to other bytes", n)
		}
	}
}

func packed(t *testing.T, image []byte) []byte {
	t.Helper()
	f, err := fs.Mount(load(t, image), 3, nil)
	if err != nil {
		t.Fatal("Mount", err)
	}
	b, err := archive.Pack(f)
	if err != nil {
		t.Fatal("Pack", err)
	}
	return b
}
