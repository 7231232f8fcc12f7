package journal_test

import (
	"bytes"
	"testing"

	"furrow/api"
	"furrow/codec"
	"furrow/journal"
	"furrow/layout"
	"furrow/pmem"
)

// seven: the change of the examples.
var seven = []api.Change{{At: 2048, New: 7}}

// armed: the examples' device, with a Commit of the change that was cut behind some steps.
func armed(t *testing.T, left int) *pmem.Device {
	t.Helper()
	d := load(t, image(small))
	d.Arm(left)
	if e := journal.Commit(d, small, seven); e != api.ErrDead {
		t.Errorf("Commit with %d steps left = %v", left, e)
	}
	return d
}

// tells: what a crash left: the records that are pending, the word 2048 in it and in its overlay.
func tells(t *testing.T, b []byte, pending int, now, over uint64) {
	t.Helper()
	l, e := journal.Pending(b)
	if len(l) != pending || e != api.OK || pending == 1 && l[0] != (api.Undo{At: 2048, Old: 0}) {
		t.Errorf("Pending = %v, %v", l, e)
	}
	o, e := journal.Overlay(b)
	if e != api.OK || word(b, 2048) != now || word(o, 2048) != over {
		t.Errorf("2048 is %d, in the overlay %d, %v; want %d, %d", word(b, 2048), word(o, 2048), e, now, over)
	}
}

func TestExample1(t *testing.T) {
	d := load(t, image(small))
	commits(t, d, small, seven)
	if d.Steps() != 15 {
		t.Errorf("%d steps", d.Steps())
	}
	v := d.View()
	if word(v, 512) != 0 || word(v, 520) != codec.Seal(520, codec.Sum(v[576:592])) || word(v, 576) != 2048 || word(v, 584) != 0 {
		t.Errorf("the journal is %x", v[512:592])
	}
}

func TestExample2(t *testing.T) {
	d := load(t, image(small))
	eight := changes(2048, 2056, 2064, 2112, 2120, 2128, 2176, 2184)
	commits(t, d, small, eight)
	if d.Steps() != 39 {
		t.Errorf("%d steps", d.Steps())
	}
	refuses(t, d, small, append(eight, api.Change{At: 2192, New: 1}), api.ErrMany)
	refuses(t, d, small, nil, api.ErrMany)
}

func TestExample3(t *testing.T) {
	d := load(t, image(small))
	for _, at := range []int{2072, 2052, 2560, 2040, -8, 512} {
		refuses(t, d, small, []api.Change{{At: at, New: 1}}, api.ErrJournal)
	}
	refuses(t, d, small, []api.Change{{At: 2048, New: 1}, {At: 2048, New: 2}}, api.ErrJournal)
	refuses(t, d, small, changes(2072, 2052, 2560, 2040, -8, 512, 2048, 2048, 2072), api.ErrMany)
	refuses(t, d, api.Shape{Pages: 24, Inodes: 8, Cores: 1, Data: 6}, seven, api.ErrShape)
	refuses(t, d, api.Shape{Pages: 25, Inodes: 8, Cores: 1, Data: 5}, seven, api.ErrShape)
}

func TestExample4(t *testing.T) {
	d := armed(t, 8)
	doubts := d.Doubts()
	if len(doubts) != 1 || doubts[0].At != 512 || doubts[0].Old != 0 || len(doubts[0].News) != 1 || doubts[0].News[0] != codec.Seal(512, 1) {
		t.Errorf("Doubts = %v", doubts)
	}
	tells(t, d.Crash([]int{0}), 0, 0, 0)
	tells(t, d.Crash([]int{1}), 1, 0, 0)
}

func TestExample5(t *testing.T) {
	d := armed(t, 9)
	if len(d.Doubts()) != 0 {
		t.Errorf("Doubts = %v", d.Doubts())
	}
	tells(t, d.Crash(nil), 1, 0, 0)
	d = armed(t, 10)
	tells(t, d.Crash(nil), 1, 0, 0)
	tells(t, d.Crash([]int{1}), 1, 7, 0)
	again := load(t, d.Crash([]int{1}))
	recovers(t, "example 5", again, 1, api.OK)
	if v := again.View(); again.Steps() != 6 || word(v, 2048) != 0 || word(v, 512) != 0 {
		t.Errorf("%d steps, 2048 is %d", again.Steps(), word(v, 2048))
	}
}

func TestExample6(t *testing.T) {
	d := armed(t, 14)
	tells(t, d.Crash([]int{0}), 1, 7, 0)
	tells(t, d.Crash([]int{1}), 0, 7, 7)
}

func TestExample7(t *testing.T) {
	b := image(small, api.Change{At: 512, New: codec.Seal(512, 1)}, api.Change{At: 520, New: codec.Seal(520, 12345)}, api.Change{At: 576, New: 2048})
	pends(t, "a wrong sum", b, nil, api.ErrUndo)
	d := load(t, b)
	still(t, "a wrong sum", d, func() { recovers(t, "a wrong sum", d, 0, api.ErrUndo) })
	refuses(t, d, small, seven, api.ErrUndo)
	refuses(t, d, small, []api.Change{{At: 2072, New: 7}}, api.ErrJournal)
}

func TestExample8(t *testing.T) {
	b := journaled(image(small), api.Undo{At: 2560, Old: 5})
	if l, e := layout.OpenUndo(b[512:1024]); len(l) != 1 || e != api.OK {
		t.Errorf("OpenUndo = %v, %v", l, e)
	}
	pends(t, "slot 9 of 8", b, nil, api.ErrUndo)
}

func TestExample9(t *testing.T) {
	b := journaled(image(small), api.Undo{At: 2048, Old: 1}, api.Undo{At: 2056, Old: 2})
	d := load(t, b)
	recovers(t, "example 9", d, 2, api.OK)
	if v := d.View(); d.Steps() != 7 || word(v, 2048) != 1 || word(v, 2056) != 2 {
		t.Errorf("%d steps, %d, %d", d.Steps(), word(v, 2048), word(v, 2056))
	}
	pends(t, "example 9", d.View(), nil, api.OK)
	still(t, "example 9 again", d, func() { recovers(t, "example 9 again", d, 0, api.OK) })
}

func TestExample10(t *testing.T) {
	pends(t, "nil", nil, nil, api.ErrSuper)
	pends(t, "512 zeros", bytes.Repeat([]byte{0}, 512), nil, api.ErrSuper)
}
