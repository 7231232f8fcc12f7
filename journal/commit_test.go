package journal_test

import (
	"bytes"
	"fmt"
	"math"
	"math/rand"
	"testing"

	"furrow/api"
	"furrow/codec"
	"furrow/journal"
	"furrow/pmem"
)

func refuses(t *testing.T, d *pmem.Device, sh api.Shape, list []api.Change, want api.Errno) {
	t.Helper()
	still(t, fmt.Sprintf("Commit(%v, %v)", sh, list), d, func() {
		if e := journal.Commit(d, sh, list); e != want {
			t.Errorf("Commit(%v, %v) = %v, want %v", sh, list, e, want)
		}
	})
}

func commits(t *testing.T, d *pmem.Device, sh api.Shape, list []api.Change) {
	t.Helper()
	if e := journal.Commit(d, sh, list); e != api.OK {
		t.Errorf("Commit(%v, %v) = %v", sh, list, e)
	}
	for _, c := range list {
		if w, _ := d.Word(c.At); w != c.New {
			t.Errorf("Commit(%v, %v): %d is %x", sh, list, c.At, w)
		}
	}
	if len(d.Doubts()) != 0 {
		t.Errorf("Commit(%v, %v) leaves doubts %v", sh, list, d.Doubts())
	}
}

func TestP4_1Shapes(t *testing.T) {
	for _, sh := range []api.Shape{small, middling, large} {
		d := load(t, image(sh))
		one := changes(2048)
		for _, by := range []int{-512, -8, -1, 1, 8, 512, 1 << 32, math.MinInt} {
			for _, wrong := range []api.Shape{
				{Pages: sh.Pages + by, Inodes: sh.Inodes, Cores: sh.Cores, Data: sh.Data},
				{Pages: sh.Pages, Inodes: sh.Inodes + by, Cores: sh.Cores, Data: sh.Data},
				{Pages: sh.Pages, Inodes: sh.Inodes, Cores: sh.Cores, Data: sh.Data + by},
			} {
				refuses(t, d, wrong, one, api.ErrShape)
			}
		}
		for _, cores := range []int{0, -1, 9, 1<<32 + 1, math.MinInt} {
			refuses(t, d, api.Shape{Pages: sh.Pages, Inodes: sh.Inodes, Cores: cores, Data: sh.Data}, one, api.ErrShape)
		}
		refuses(t, d, api.Shape{}, one, api.ErrShape)
		refuses(t, d, api.Shape{Data: 4}, one, api.ErrShape)
		commits(t, d, sh, one)
	}
}

func TestP4_1EveryShapeOfADevice(t *testing.T) {
	for inodes := -8; inodes <= 272; inodes++ {
		for cores := 0; cores <= 9; cores++ {
			sh := api.Shape{Pages: 64, Inodes: inodes, Cores: cores, Data: 4 + inodes/8}
			d := load(t, make([]byte, 64*512))
			if inodes >= 8 && inodes <= 256 && inodes%8 == 0 && cores >= 1 && cores <= 8 {
				commits(t, d, sh, changes(2048+64*(inodes-1)))
			} else {
				refuses(t, d, sh, changes(2048), api.ErrShape)
			}
		}
	}
}

func TestP4_1SizesOfDevices(t *testing.T) {
	for _, pages := range []int{1, 2, 4, 5, 16, 23, 24, 25, 39, 40, 41, 48, 1024} {
		d := load(t, make([]byte, pages*512))
		for _, sh := range []api.Shape{small, middling, large} {
			if pages == sh.Pages {
				commits(t, d, sh, changes(2064))
			} else {
				refuses(t, d, sh, changes(2064), api.ErrShape)
			}
		}
	}
	// 7 pages behind the table, 23 in all: too few for any shape, although the device has just these.
	refuses(t, load(t, make([]byte, 24*512)), api.Shape{Pages: 24, Inodes: 104, Cores: 1, Data: 17}, changes(2048), api.ErrShape)
	refuses(t, load(t, make([]byte, 23*512)), api.Shape{Pages: 23, Inodes: 8, Cores: 1, Data: 5}, changes(2048), api.ErrShape)
}

func TestP4_1HowMany(t *testing.T) {
	all := tableWords(large)
	for n := 0; n <= len(all); n++ {
		d := load(t, image(large))
		if n >= 1 && n <= 8 {
			commits(t, d, large, changes(all[:n]...))
		} else if n < 20 || n%50 == 0 {
			refuses(t, d, large, changes(all[:n]...), api.ErrMany)
		}
	}
	d := load(t, image(large))
	refuses(t, d, large, nil, api.ErrMany)
	refuses(t, d, large, []api.Change{}, api.ErrMany)
	refuses(t, d, large, changes(all...)[:0], api.ErrMany)
}

func TestP4_1EveryAddress(t *testing.T) {
	for _, sh := range []api.Shape{small, middling} {
		d := load(t, image(sh))
		for at := -80; at < sh.Pages*512+80; at++ {
			list := []api.Change{{At: at, New: uint64(at)}}
			if isTableWord(sh, at) {
				commits(t, d, sh, list)
			} else if e := journal.Commit(d, sh, list); e != api.ErrJournal {
				t.Errorf("Commit(%v) = %v", list, e)
			}
		}
		if want := len(tableWords(sh)) * 15; d.Steps() != want {
			t.Errorf("%d steps, want %d", d.Steps(), want)
		}
	}
}

func TestP4_1AddressesOfTheLargest(t *testing.T) {
	d := load(t, image(large))
	for _, at := range []int{18368 + 24, 18368 + 64, 18368 + 72, 18368 + 128, 524280, 524288, 2040, 2000} {
		refuses(t, d, large, changes(at), api.ErrJournal)
	}
	for _, at := range tableWords(large) {
		commits(t, d, large, []api.Change{{At: at, New: 1}})
	}
}

func TestP4_1WhereTheWrongOneStands(t *testing.T) {
	d := load(t, image(small))
	for n := 1; n <= 8; n++ {
		for k := range n {
			for _, at := range append(wild, 2072, 2049, 2560, 2552, 0, 512, 2040) {
				list := changes(tableWords(small)[:n]...)
				list[k].At = at
				refuses(t, d, small, list, api.ErrJournal)
			}
		}
	}
}

func TestP4_1TheSameTwice(t *testing.T) {
	d := load(t, image(small))
	for n := 2; n <= 8; n++ {
		for j := range n {
			for i := range j {
				list := changes(tableWords(small)[:n]...)
				list[j].At = list[i].At
				refuses(t, d, small, list, api.ErrJournal)
				list[j].New = list[i].New
				refuses(t, d, small, list, api.ErrJournal)
			}
		}
	}
}

// journals: bytes of a journal's page; empty tells whether it has no records.
var journals = []struct {
	name  string
	page  []byte
	empty bool
}{
	{"zeros", nil, true},
	{"no records, but a sum", codec.Bytes(0, 99, 1, 2), true},
	{"no records, but their bytes", append(codec.Bytes(0), undoPage([]api.Undo{{At: 2048, Old: 5}})[8:]...), true},
	{"a full line of noise behind the word", append(codec.Bytes(0), bytes.Repeat([]byte{0xA5}, 504)...), true},
	{"one record", undoPage([]api.Undo{{At: 2048, Old: 5}}), false},
	{"eight records", undoPage(undos(2048, 2056, 2064, 2112, 2120, 2128, 2176, 2184)), false},
	{"a record of an inode that isn't there", undoPage([]api.Undo{{At: 18368, Old: 5}}), false},
	{"a wrong sum", codec.Bytes(codec.Seal(512, 1), codec.Seal(520, 12345), 0, 0, 0, 0, 0, 0, 2048, 5), false},
	{"a sum that isn't sealed", codec.Bytes(codec.Seal(512, 1), 7, 0, 0, 0, 0, 0, 0, 2048, 5), false},
	{"nine records", undoPage(undos(2048, 2056, 2064, 2112, 2120, 2128, 2176, 2184, 2192)), false},
	{"a record of no table word", undoPage([]api.Undo{{At: 2072, Old: 5}}), false},
	{"the same record twice", undoPage(undos(2048, 2048)), false},
	{"an unsealed number", codec.Bytes(1), false},
	{"a number sealed for another place", codec.Bytes(codec.Seal(520, 1)), false},
	{"a check without a number", codec.Bytes(1 << 40), false},
}

func undos(ats ...int) []api.Undo {
	var list []api.Undo
	for i, at := range ats {
		list = append(list, api.Undo{At: at, Old: math.MaxUint64 - uint64(i)*0x0101})
	}
	return list
}

func TestP4_1TheJournalIsNotEmpty(t *testing.T) {
	for _, j := range journals {
		b := image(small)
		copy(b[512:], j.page)
		d := load(t, b)
		if j.empty {
			commits(t, d, small, changes(2048, 2120))
		} else {
			refuses(t, d, small, changes(2048, 2120), api.ErrUndo)
		}
	}
}

func TestP4_1TheJournalAsItIsNow(t *testing.T) {
	full := undoPage([]api.Undo{{At: 2048, Old: 5}})
	d := load(t, journaled(image(small), api.Undo{At: 2048, Old: 5}))
	d.Store(512, 0) // the durable word has a record still
	commits(t, d, small, changes(2056))
	d = load(t, image(small))
	d.Write(512, full) // nothing of it is durable
	refuses(t, d, small, changes(2056), api.ErrUndo)
	d.Store(520, 1)
	refuses(t, d, small, changes(2056), api.ErrUndo)
	d.Store(512, 0)
	commits(t, d, small, changes(2056))
}

// TestP4_1Order: of all that can be wrong at once, the first one is told; a dead device last.
func TestP4_1Order(t *testing.T) {
	nine := changes(append(tableWords(small)[:8], 2072)...)
	wrong := api.Shape{Pages: 24, Inodes: 8, Cores: 1, Data: 6}
	for _, j := range journals {
		for _, dead := range []bool{false, true} {
			b := image(small)
			copy(b[512:], j.page)
			d := load(t, b)
			if dead {
				d.Arm(0)
			}
			for _, list := range [][]api.Change{nil, nine, nine[7:], nine[:8], changes(2048, 2048)} {
				refuses(t, d, wrong, list, api.ErrShape)
			}
			refuses(t, d, small, nil, api.ErrMany)
			refuses(t, d, small, nine, api.ErrMany)
			refuses(t, d, small, make([]api.Change, 9), api.ErrMany)
			refuses(t, d, small, nine[7:], api.ErrJournal)
			refuses(t, d, small, changes(2048, 2048), api.ErrJournal)
			switch {
			case !j.empty:
				refuses(t, d, small, nine[:8], api.ErrUndo)
			case dead:
				refuses(t, d, small, nine[:8], api.ErrDead)
			}
		}
	}
}

func TestP4_1TheSuperblockIsNotLookedAt(t *testing.T) {
	other := api.Shape{Pages: 24, Inodes: 16, Cores: 2, Data: 6}
	for _, b := range [][]byte{make([]byte, 24*512), image(other), bytes.Repeat([]byte{0xA5}, 24*512)} {
		copy(b[512:], make([]byte, 8))
		d := load(t, b)
		commits(t, d, small, changes(2048, 2512))
		refuses(t, d, small, changes(2560), api.ErrJournal)
		commits(t, d, other, changes(2560))
	}
}

// stepsOf: the number that P4.2 gives.
func stepsOf(list []api.Change) int {
	n, lines := len(list), map[int]bool{}
	for _, c := range list {
		lines[c.At/64] = true
	}
	return 3*n + (n+3)/4 + len(lines) + 10
}

// cutEverywhere: a Commit on a device as made makes it, dead behind every number of steps, is what P4.2's steps are up to there.
func cutEverywhere(t *testing.T, sh api.Shape, list []api.Change, made func() *pmem.Device) {
	t.Helper()
	acts, _ := committing(made(), list)
	if len(acts) != stepsOf(list) {
		t.Fatalf("%v: the steps told are %d, not %d", list, len(acts), stepsOf(list))
	}
	for left := 0; left <= len(acts)+1; left++ {
		what := fmt.Sprintf("Commit(%v) with %d steps left", list, left)
		want := api.ErrDead
		if left >= len(acts) {
			want = api.OK
		}
		d, m := made(), made()
		d.Arm(left)
		if e := journal.Commit(d, sh, list); e != want {
			t.Errorf("%s = %v, want %v", what, e, want)
		}
		play(t, m, acts[:min(left, len(acts))])
		alike(t, what, d, m)
	}
}

// sketched: lists of changes with what the chapter names: one word, eight, lines that are shared, any order, the last slot.
var sketched = [][]api.Change{
	{{At: 2048, New: 7}},
	{{At: 2512, New: math.MaxUint64}},
	{{At: 2048, New: 0}},
	{{At: 2064, New: 1}, {At: 2056, New: 2}},
	{{At: 2496, New: 1}, {At: 2048, New: 2}, {At: 2504, New: 3}},
	{{At: 2128, New: 4}, {At: 2064, New: 3}, {At: 2120, New: 2}, {At: 2056, New: 1}},
	{{At: 2048, New: 1}, {At: 2112, New: 2}, {At: 2176, New: 3}, {At: 2240, New: 4}, {At: 2304, New: 5}},
	{{At: 2512, New: 1}, {At: 2448, New: 2}, {At: 2384, New: 3}, {At: 2320, New: 4}, {At: 2256, New: 5}, {At: 2192, New: 6}, {At: 2128, New: 7}, {At: 2064, New: 8}},
	{{At: 2048, New: 1}, {At: 2056, New: 2}, {At: 2064, New: 3}, {At: 2112, New: 4}, {At: 2120, New: 5}, {At: 2128, New: 6}, {At: 2176, New: 7}, {At: 2184, New: 8}},
}

func TestP4_2Sketched(t *testing.T) {
	r := chance()
	for _, list := range sketched {
		zeros, noise := image(small), filled(r, small)
		cutEverywhere(t, small, list, func() *pmem.Device { return load(t, zeros) })
		cutEverywhere(t, small, list, func() *pmem.Device { return load(t, noise) })
	}
}

func TestP4_2Drawn(t *testing.T) {
	r := chance()
	for round := range 120 {
		sh := []api.Shape{small, middling}[round%2]
		b := filled(r, sh)
		list := drawn(r, sh, b, 1+round%8)
		cutEverywhere(t, sh, list, func() *pmem.Device { return load(t, b) })
	}
	b := filled(r, large)
	cutEverywhere(t, large, drawn(r, large, b, 8), func() *pmem.Device { return load(t, b) })
}

// doubtful: steps that leave words of the table and of the journal in doubt, some of them flushed, and the journal without records.
func doubtful(r *rand.Rand, sh api.Shape) []act {
	places := append(tableWords(sh), 512, 520, 576, 584, 592, 640, 696, 704, 128, 1024)
	var acts []act
	for range 5 + r.Intn(40) {
		at := places[r.Intn(len(places))]
		switch r.Intn(6) {
		case 0:
			acts = append(acts, act{'f', at, 0})
		case 1:
			acts = append(acts, act{'|', 0, 0})
		default:
			acts = append(acts, act{'s', at, r.Uint64() >> r.Intn(64)})
		}
	}
	acts = append(acts, act{'s', 512, 0})
	if r.Intn(2) == 0 {
		acts = append(acts, act{'f', 512, 0})
	}
	return acts
}

func TestP4_2OnADeviceWithDoubts(t *testing.T) {
	r := chance()
	for round := range 60 {
		b, ahead := filled(r, small), doubtful(r, small)
		made := func() *pmem.Device {
			d := load(t, b)
			play(t, d, ahead)
			return d
		}
		list := drawn(r, small, made().View(), 1+round%8)
		cutEverywhere(t, small, list, made)
	}
}

// TestP4_2OneBehindTheOther: what an earlier commit left in the journal's page is of no matter.
func TestP4_2OneBehindTheOther(t *testing.T) {
	r := chance()
	d, m := load(t, filled(r, middling)), (*pmem.Device)(nil)
	for range 200 {
		m = load(t, d.View())
		ahead := d.Steps()
		list := drawn(r, middling, d.View(), 1+r.Intn(8))
		acts, _ := committing(m, list)
		commits(t, d, middling, list)
		play(t, m, acts)
		if !bytes.Equal(d.View(), m.View()) || d.Steps()-ahead != stepsOf(list) {
			t.Fatalf("Commit(%v) did %d steps, or others", list, d.Steps()-ahead)
		}
	}
}

func TestP4_2BytesThatAreLeftAlone(t *testing.T) {
	r := chance()
	b := filled(r, small)
	d := load(t, b)
	commits(t, d, small, changes(2048))
	v := d.View()
	for at := 0; at < len(b); at += 8 {
		switch at {
		case 520, 576, 584, 2048:
			continue
		}
		if word(v, at) != word(b, at) {
			t.Errorf("the word at %d is changed", at)
		}
	}
}

func TestP4_3WhatWasDoneStays(t *testing.T) {
	list := changes(2048, 2120, 2128)
	for left := range stepsOf(list) {
		d := load(t, image(small))
		d.Arm(left)
		if e := journal.Commit(d, small, list); e != api.ErrDead || d.Steps() != left || !d.Dead() {
			t.Errorf("with %d steps left: %v, %d steps", left, e, d.Steps())
		}
	}
	d := load(t, image(small))
	d.Arm(stepsOf(list))
	commits(t, d, small, list)
	if !d.Dead() {
		t.Error("the device isn't dead behind its last step")
	}
	refuses(t, d, small, list, api.ErrDead)
	if l, e := journal.Pending(d.View()); len(l) != 0 || e != api.OK {
		t.Errorf("Pending = %v, %v", l, e)
	}
}

// TestP4_3MayHaveHadItsEffect: cut amid step 6, all the words are New already.
func TestP4_3MayHaveHadItsEffect(t *testing.T) {
	list := changes(2048, 2120, 2128)
	for _, left := range []int{stepsOf(list) - 2, stepsOf(list) - 1} {
		d := load(t, image(small))
		d.Arm(left)
		if e := journal.Commit(d, small, list); e != api.ErrDead {
			t.Errorf("with %d steps left: %v", left, e)
		}
		b := d.Crash([]int{1})
		over, e := journal.Overlay(b)
		if e != api.OK {
			t.Fatal(e)
		}
		for _, c := range list {
			if word(over, c.At) != c.New {
				t.Errorf("with %d steps left: %d is %x", left, c.At, word(over, c.At))
			}
		}
	}
}
