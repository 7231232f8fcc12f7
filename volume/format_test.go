package volume_test

import (
	"bytes"
	"errors"
	"math/rand"
	"slices"
	"testing"

	"furrow/api"
	"furrow/codec"
	"furrow/layout"
	"furrow/pmem"
	"furrow/replay"
	"furrow/volume"
)

// act: one step of a device.
type act struct {
	kind byte // 's' a Store, 'f' a Flush, '|' a Fence
	at   int
	v    uint64
}

func (a act) on(d *pmem.Device) api.Errno {
	switch a.kind {
	case 's':
		return d.Store(a.at, a.v)
	case 'f':
		return d.Flush(a.at)
	}
	return d.Fence()
}

// formatting: the steps of P15.1, in its words.
func formatting(s api.Super) []act {
	var acts []act
	heads := func(word func(i int) uint64) {
		for i := range 16 {
			acts = append(acts, act{'s', 8 * i, word(i)})
		}
		acts = append(acts, act{'f', 0, 0}, act{'f', 64, 0}, act{'|', 0, 0})
	}
	heads(func(int) uint64 { return 0 })
	acts = append(acts, act{'s', 128, 0}, act{'s', 512, 0}, act{'s', 520, 0})
	for ino := 1; ino <= s.Inodes; ino++ {
		at := 2048 + 64*(ino-1)
		meta := uint64(0)
		if ino == 1 {
			meta = codec.Seal(at, 2+256)
		}
		acts = append(acts, act{'s', at, meta}, act{'s', at + 8, 0}, act{'s', at + 16, 0})
	}
	acts = append(acts, act{'f', 128, 0}, act{'f', 512, 0})
	for ino := 1; ino <= s.Inodes; ino++ {
		acts = append(acts, act{'f', 2048 + 64*(ino-1), 0})
	}
	acts = append(acts, act{'|', 0, 0})
	line, _ := layout.PackSuper(s)
	words, _ := codec.Words(line[:])
	heads(func(i int) uint64 { return words[i%8] })
	return acts
}

// filled: a device's bytes, any at all, some of them stored and in doubt.
func filled(t *testing.T, r *rand.Rand, pages, doubts int) *pmem.Device {
	t.Helper()
	b := make([]byte, 512*pages)
	r.Read(b)
	d := load(t, b)
	for range doubts {
		d.Store(8*r.Intn(64*pages), r.Uint64())
	}
	return d
}

// again: a device with the same bytes and doubts (none of which is flushed).
func again(t *testing.T, d *pmem.Device) *pmem.Device {
	t.Helper()
	m := load(t, d.Crash(nil))
	for _, w := range d.Doubts() {
		for _, v := range w.News {
			m.Store(w.At, v)
		}
	}
	return m
}

var supers = []api.Super{small, middling, tight, {Pages: 24, Inodes: 16, Cores: 8}, {Pages: 45, Inodes: 256, Cores: 2}}

// TestP15_1Steps: on any bytes, with words in doubt: the steps, whole, and cut behind each of them.
func TestP15_1Steps(t *testing.T) {
	r := chance()
	for _, s := range supers {
		acts := formatting(s)
		first := filled(t, r, s.Pages, 30)
		for cut := 0; cut <= len(acts); cut += 1 + len(acts)/100 {
			d, m := again(t, first), again(t, first)
			d.Arm(cut)
			m.Arm(cut)
			for _, a := range acts {
				if a.on(m) != api.OK {
					break
				}
			}
			want := api.OK
			if cut < len(acts) {
				want = api.ErrDead
			}
			if e := volume.Format(d, s); e != want {
				t.Fatalf("Format(%v), cut at %d of %d: %v", s, cut, len(acts), e)
			}
			alike(t, "P15.1", d, m)
		}
		d := again(t, first)
		if e := volume.Format(d, s); e != api.OK || d.Steps()-first.Steps() != len(acts) {
			t.Errorf("Format(%v) = %v, %d steps; want %d", s, e, d.Steps()-first.Steps(), len(acts))
		}
	}
}

// TestP15_1What: what stands on the device behind it, and what stays.
func TestP15_1What(t *testing.T) {
	r := chance()
	for _, s := range append(supers, large) {
		d := filled(t, r, s.Pages, 40)
		was, doubts := d.View(), d.Doubts()
		if e := volume.Format(d, s); e != api.OK {
			t.Fatalf("Format(%v) = %v", s, e)
		}
		line, _ := layout.PackSuper(s)
		want := slices.Clone(was)
		copy(want, line[:])
		copy(want[64:], line[:])
		put(want, 128, 0)
		put(want, 512, 0)
		put(want, 520, 0)
		for ino := 1; ino <= s.Inodes; ino++ {
			clear(want[2048+64*(ino-1):][:24])
		}
		put(want, 2048, codec.Seal(2048, 258))
		if !bytes.Equal(d.View(), want) {
			t.Errorf("Format(%v): the bytes aren't what they should be", s)
		}
		for _, w := range d.Doubts() {
			if !slices.ContainsFunc(doubts, func(o api.Doubt) bool { return o.At == w.At }) {
				t.Errorf("Format(%v) leaves a doubt at %d", s, w.At)
			}
		}
		sh, _ := layout.Fit(s)
		st := replayed(t, d.View())
		if !sameState(st, api.State{Shape: sh, Nodes: []api.Node{{Ino: 1, Kind: api.KindDir, Links: 1}}, Free: []api.Span{{From: sh.Data, Count: sh.Pages - sh.Data}}}) {
			t.Errorf("Format(%v): Replay reads %+v", s, st)
		}
	}
}

func TestP15_1Refused(t *testing.T) {
	numbers := append(wild, 1, 7, 9, 12, 23, 24, 25, 104, 264, 1025)
	r := chance()
	for range 3000 {
		s := api.Super{Pages: oneOf(r, numbers), Inodes: oneOf(r, append(numbers, 8)), Cores: oneOf(r, append(numbers, 2))}
		_, e := layout.Fit(s)
		if e == api.OK && s.Pages == 24 {
			continue
		}
		d := filled(t, r, 24, 3)
		if r.Intn(2) == 0 {
			d.Arm(0) // a shape that isn't good comes first
		}
		still(t, "P15.1", d, func() {
			if e := volume.Format(d, s); e != api.ErrShape {
				t.Errorf("Format(%v) of 24 pages = %v", s, e)
			}
		})
	}
	for _, pages := range []int{1, 23, 25, 48, 1024} {
		d := device(t, pages)
		still(t, "P15.1", d, func() {
			if e := volume.Format(d, small); e != api.ErrShape {
				t.Errorf("Format(%v) of %d pages = %v", small, pages, e)
			}
		})
	}
	d := formatted(t, small)
	d.Arm(0)
	still(t, "P15.1", d, func() {
		if e := volume.Format(d, small); e != api.ErrDead {
			t.Errorf("Format of a dead device = %v", e)
		}
	})
}

// TestP15_1Power: a loss of power amid Format leaves what the device meant, nothing that is a device, or the new one.
func TestP15_1Power(t *testing.T) {
	r := chance()
	used, v := fresh(t, small)
	does(t, v, api.OK, says(1, add("a", 2)), api.Edit{Ino: 2, Kind: api.KindFile, Links: 1, Fills: fills(7, 0, 1), Size: 900})
	spoiltOne := used.View()
	spoiltOne[2048+64] ^= 1 // a slot that isn't sealed: a breach behind a good superblock
	zeros := used.View()
	clear(zeros[:128])
	noSuper := errors.New("")
	for _, to := range []api.Super{small, {Pages: 24, Inodes: 16, Cores: 2}} {
		for i, image := range [][]byte{used.View(), spoiltOne, zeros, make([]byte, 24*512)} {
			was, breach := replay.Replay(image)
			for cut := range len(formatting(to)) + 1 {
				d := load(t, image)
				d.Arm(cut)
				e := volume.Format(d, to)
				for _, left := range everyCrash(r, d, 12) {
					st, err := replay.Replay(left)
					var c *api.CorruptError
					if errors.As(err, &c) && c.Reason == api.ErrSuper {
						err = noSuper
					}
					isNew := err == nil && st.Shape.Inodes == to.Inodes && st.Shape.Cores == to.Cores && len(st.Nodes) == 1 && countOf(st.Free) == st.Shape.Pages-st.Shape.Data
					isOld := bytes.Equal(left[128:], image[128:]) && (err == nil && breach == nil && sameState(st, was) || err != nil && breach != nil && err.Error() == breach.Error())
					if e == api.OK && !isNew || !isNew && !isOld && err != noSuper {
						t.Fatalf("image %d, cut at %d (Format answers %v): %+v, %v", i, cut, e, st, err)
					}
				}
			}
		}
	}
}
