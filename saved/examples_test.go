package saved_test

import (
	"bytes"
	"math"
	"testing"

	"furrow/api"
	"furrow/codec"
	"furrow/pmem"
	"furrow/saved"
)

// begun: the device of the examples, behind example 2's Save.
func begun(t *testing.T) *pmem.Device {
	t.Helper()
	d := device(t, 24*512)
	saves(t, "example 2", d, spans(5, 3, 9, 15), true, api.OK)
	return d
}

func clean(t *testing.T, what string, d *pmem.Device, want uint64) {
	t.Helper()
	if w, _ := d.Word(128); w != want {
		t.Errorf("%s: the clean word is %x; want %x", what, w, want)
	}
}

func stepsDone(t *testing.T, what string, d *pmem.Device, want int) {
	t.Helper()
	if d.Steps() != want {
		t.Errorf("%s: %d steps; want %d", what, d.Steps(), want)
	}
}

func TestExample1(t *testing.T) {
	b := device(t, 24*512).View()
	restores(t, "new", b, small, spans(5, 19), api.ErrAbsent)
	restores(t, "Data 6", b, api.Shape{Pages: 24, Inodes: 8, Cores: 1, Data: 6}, spans(5, 19), api.ErrShape)
	restores(t, "nil", nil, small, spans(5, 19), api.ErrShape)
}

func TestExample2(t *testing.T) {
	d := begun(t)
	stepsDone(t, "Save", d, 9)
	clean(t, "Save", d, codec.Seal(128, 1))
	restores(t, "the same", d.View(), small, spans(5, 3, 9, 15), api.OK)
	restores(t, "one span", d.View(), small, spans(5, 19), api.ErrDiffers)
	restores(t, "none", d.View(), small, nil, api.ErrDiffers)
	m := device(t, 24*512)
	play(t, m, []act{
		{'s', 1024, 0x5653574F52525546}, {'s', 1032, 1}, {'s', 1040, 2 | uint64(codec.Sum([]byte("FURROWSV\x01\x00\x00\x00\x00\x00\x00\x00\x02\x00\x00\x00\x05\x00\x03\x00\x09\x00\x0f\x00")))<<32}, {'s', 1048, 0x000F000900030005},
		{'f', 1024, 0}, {'|', 0, 0}, {'s', 128, codec.Seal(128, 1)}, {'f', 128, 0}, {'|', 0, 0},
	})
	alike(t, "Save", d, m)
}

func TestExample3(t *testing.T) {
	d := begun(t)
	saves(t, "again", d, spans(5, 19), true, api.OK)
	stepsDone(t, "again", d, 9+12)
	clean(t, "again", d, codec.Seal(128, 2))
	restores(t, "again", d.View(), small, spans(5, 19), api.OK)
	restores(t, "as before", d.View(), small, spans(5, 3, 9, 15), api.ErrDiffers)
}

func TestExample4(t *testing.T) {
	d := begun(t)
	saves(t, "again", d, spans(5, 19), true, api.OK)
	forgets(t, "Forget", d, api.OK)
	stepsDone(t, "Forget", d, 9+12+3)
	restores(t, "Forget", d.View(), small, spans(5, 19), api.ErrAbsent)
	saves(t, "of nil", d, nil, true, api.OK)
	stepsDone(t, "of nil", d, 9+12+3+8)
	clean(t, "of nil", d, codec.Seal(128, 3))
	restores(t, "of nil", d.View(), small, nil, api.OK)
	restores(t, "of nil", d.View(), small, spans(), api.OK)
	restores(t, "of nil", d.View(), small, spans(5, 19), api.ErrDiffers)
}

func TestExample5(t *testing.T) {
	b := begun(t).View()
	put(b, 128, codec.Seal(128, 7))
	restores(t, "sealed for 7", b, small, spans(5, 3, 9, 15), api.ErrStale)
	restores(t, "sealed for 7", b, small, nil, api.ErrStale)
	put(b, 128, 7)
	restores(t, "7, not sealed", b, small, spans(5, 3, 9, 15), api.ErrAbsent)
}

func TestExample6(t *testing.T) {
	b := begun(t).View()
	b[1024] ^= 1
	restores(t, "the first byte", b, small, spans(5, 3, 9, 15), api.ErrSaved)
	b = begun(t).View()
	b[1024+24+4*2] ^= 255
	restores(t, "behind the record", b, small, spans(5, 3, 9, 15), api.OK)
}

func TestExample7(t *testing.T) {
	d := device(t, 24*512)
	for _, l := range [][]api.Span{spans(5, 0), spans(4, 1), spans(5, 1020), spans(5, 3, 8, 1), spans(9, 1, 5, 1), spans(5, math.MaxInt)} {
		still(t, "no good spans", d, func() { saves(t, "no good spans", d, l, false, api.ErrSaved) })
	}
	still(t, "250", d, func() { saves(t, "250", d, apart(250), false, api.OK) })
	saves(t, "249", d, apart(249), true, api.OK)
	restores(t, "249", d.View(), small, apart(249), api.OK)
}

func TestExample8(t *testing.T) {
	d := device(t, 1024)
	still(t, "1024 bytes", d, func() { saves(t, "1024 bytes", d, nil, false, api.ErrBounds) })
	forgets(t, "1024 bytes", d, api.OK)
	stepsDone(t, "1024 bytes", d, 3)
}

func TestExample9(t *testing.T) {
	r, list := chance(), spans(5, 3, 9, 15)
	for left := 6; left <= 8; left++ {
		d := device(t, 24*512)
		d.Arm(left)
		saves(t, "armed", d, list, false, api.ErrDead)
		if left == 6 {
			for _, b := range everyCrash(r, d, 100) {
				restores(t, "6 steps", b, small, list, api.ErrAbsent)
			}
			if got, _ := d.Read(1024, 8); !bytes.Equal(got, []byte("FURROWSV")) || len(d.Doubts()) != 0 {
				t.Errorf("6 steps: the record isn't durable: %v", d.Doubts())
			}
			continue
		}
		restores(t, "Crash([0])", d.Crash([]int{0}), small, list, api.ErrAbsent)
		restores(t, "Crash([1])", d.Crash([]int{1}), small, list, api.OK)
	}
}

func TestExample10(t *testing.T) {
	d := load(t, recorded(t, image(small), math.MaxUint32, spans(5, 3)))
	saves(t, "2^32 - 1", d, spans(5, 19), true, api.OK)
	clean(t, "2^32 - 1", d, codec.Seal(128, 1))
	if l, e := saved.Restore(d.View(), api.State{Shape: small, Free: spans(5, 19)}); len(l) != 1 || e != api.OK {
		t.Errorf("Restore = %v, %v", l, e)
	}
}
