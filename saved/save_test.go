package saved_test

import (
	"math"
	"testing"

	"furrow/api"
	"furrow/codec"
	"furrow/layout"
	"furrow/saved"
)

// refused: what Save refuses, in the words of P13.1; whether it goes on to its steps.
func refused(size int, list []api.Span) (api.Errno, bool) {
	switch {
	case !goodSpans(list):
		return api.ErrSaved, false
	case size < 2048:
		return api.ErrBounds, false
	}
	return api.OK, len(list) <= 249
}

// asks: whether Save on a new device of that size answers what P13.1 says, and does no step where it refuses.
func asks(t *testing.T, size int, list []api.Span) {
	t.Helper()
	d := device(t, size)
	no, goes := refused(size, list)
	saves(t, "P13.1", d, list, goes, no)
	if !goes {
		stepsDone(t, "P13.1", d, 0)
	}
	d = device(t, size)
	d.Arm(0)
	if goes {
		no = api.ErrDead
	}
	saves(t, "P13.1, dead", d, list, false, no)
}

// asksOf: on a device with room for a record, and on one without, where other spans than good ones are refused all the same.
func asksOf(t *testing.T, list []api.Span) {
	t.Helper()
	asks(t, 24*512, list)
	asks(t, 1536, list)
}

func TestP13_1Spans(t *testing.T) {
	for _, l := range [][]api.Span{
		nil, spans(), spans(5, 1), spans(5, 1019), spans(1023, 1), spans(1022, 2), spans(5, 1, 7, 1), spans(5, 3, 9, 1), spans(5, 3, 9, 1015), spans(5, 1, 1023, 1),
		spans(5, 0), spans(4, 1), spans(4, 2), spans(3, 9), spans(1, 1), spans(0, 0), spans(5, 1020), spans(1023, 2), spans(1024, 1), spans(1024, 0), spans(1022, 3),
		spans(5, 3, 8, 1), spans(5, 3, 7, 1), spans(5, 3, 5, 3), spans(9, 1, 5, 1), spans(5, 1, 7, 0), spans(5, 1, 6, 1), spans(9, 2, 8, 1), spans(5, 1, 7, 1, 6, 1), spans(5, 1, 0, 0),
		spans(5, -1), spans(5, -1, 7, 1), spans(-1, 8), spans(9, -3), spans(2000, -1000), spans(1023, -1),
	} {
		asksOf(t, l)
	}
	for n := range 520 {
		asksOf(t, apart(n))
	}
}

func TestP13_1WildNumbers(t *testing.T) {
	for _, x := range wild {
		asksOf(t, spans(x, 1))
		asksOf(t, spans(5, x))
		asksOf(t, spans(x, x))
		asksOf(t, spans(5, 1, x, 1))
		asksOf(t, spans(5, 1, 7, x))
		asksOf(t, spans(5, x, 7, 1))
		asksOf(t, spans(1023, x))
		for _, y := range wild {
			asksOf(t, spans(x, y))
			asksOf(t, spans(5, 1, x, y))
		}
	}
}

// TestP13_1LastSpan: of many spans the last one counts too, also where they are more than a record has.
func TestP13_1LastSpan(t *testing.T) {
	for _, n := range []int{248, 249, 250, 509} {
		for _, place := range []int{0, n / 2, n - 1} {
			for _, wrong := range spans(4, 1, 5+2*place, 0, 1024, 1, 5, 2000) {
				l := apart(n)
				l[place] = wrong
				asksOf(t, l)
			}
			l := apart(n)
			l[place].Count = 2 // touches the one behind it
			asksOf(t, l)
		}
	}
}

func TestP13_1Order(t *testing.T) {
	for _, size := range []int{512, 1024, 1536, 2048, 2560, 24 * 512} {
		for _, l := range [][]api.Span{nil, spans(5, 19), apart(249), apart(250), spans(5, 0), append(apart(250), api.Span{})} {
			asks(t, size, l)
		}
	}
}

// TestP13_1SmallDevices: four pages are enough for a record, though no shape has so few.
func TestP13_1SmallDevices(t *testing.T) {
	d := device(t, 2048)
	saves(t, "2048 bytes", d, apart(249), true, api.OK)
	r, e := layout.OpenSaved(d.View()[1024:])
	if e != api.OK || r.Stamp != 1 || len(r.Spans) != 249 {
		t.Errorf("2048 bytes: the record is %v, %v", r, e)
	}
}

func TestP13_2Steps(t *testing.T) {
	r := chance()
	for _, l := range [][]api.Span{nil, spans(5, 1), spans(5, 3, 9, 15), spans(5, 19), apart(3), apart(9), apart(10), apart(11), apart(12), apart(26), apart(27), apart(248), apart(249)} {
		stepwise(t, "a new device", make([]byte, 24*512), l, 1)
		stepwise(t, "no record", filled(r, small), l, 1)
		stepwise(t, "a record", recorded(t, filled(r, small), 7, spans(5, 2)), l, 8)
		stepwise(t, "a clean word", unmounted(t, r, middling, 7, apart(30)), l, 8)
	}
	for range 20 {
		stamp := 1 + uint32(r.Int63n(1<<32-2))
		stepwise(t, "drawn", unmounted(t, r, small, stamp, drawn(r, 24, 249)), drawn(r, 1024, 249), stamp+1)
	}
}

func TestP13_2Stamps(t *testing.T) {
	r := chance()
	for _, s := range []struct{ is, next uint32 }{{1, 2}, {2, 3}, {1<<31 - 1, 1 << 31}, {1 << 31, 1<<31 + 1}, {math.MaxUint32 - 1, math.MaxUint32}, {math.MaxUint32, 1}} {
		stepwise(t, "a stamp", recorded(t, filled(r, small), s.is, spans(5, 3)), spans(5, 4), s.next)
		stepwise(t, "a stamp that is believed", unmounted(t, r, small, s.is, spans(5, 3)), spans(5, 4), s.next)
	}
	b := unmounted(t, r, small, 9, spans(5, 3))
	b[1024+24] ^= 2 // no record any more
	stepwise(t, "a spoilt record", b, spans(5, 4), 1)
}

// TestP13_2CleanWords: whatever the clean word is, if it isn't the word 0 it is cleared ahead of the record; the stamp comes from the record alone.
func TestP13_2CleanWords(t *testing.T) {
	r := chance()
	for _, w := range []uint64{0, 1, 7, 1 << 32, 1 << 63, math.MaxUint64, codec.Seal(128, 7), codec.Seal(128, 3), codec.Seal(120, 3), codec.Seal(128, 3) & math.MaxUint32, codec.Seal(128, 3) &^ math.MaxUint32} {
		b := recorded(t, filled(r, small), 3, spans(5, 3))
		put(b, 128, w)
		stepwise(t, "a clean word", b, spans(5, 4), 4)
		put(b, 1024, 0)
		stepwise(t, "a clean word without a record", b, spans(5, 4), 1)
	}
}

// TestP13_2InDoubt: the values now count, of the clean word and of the record; and what was in doubt in the record's lines is made durable with it.
func TestP13_2InDoubt(t *testing.T) {
	r := chance()
	b := recorded(t, filled(r, small), 3, spans(5, 3))
	for _, doubts := range [][]act{
		{{'s', 128, codec.Seal(128, 3)}},
		{{'s', 128, codec.Seal(128, 3)}, {'s', 128, 0}},
		{{'s', 128, 5}, {'f', 128, 0}, {'s', 128, 0}},
		{{'s', 136, 5}, {'s', 1064, 9}, {'s', 2040, 9}},
		{{'s', 0, 5}, {'s', 2048, 9}, {'f', 0, 0}},
	} {
		d, m := load(t, b), load(t, b)
		play(t, d, doubts)
		play(t, m, doubts)
		now, _ := m.Word(128)
		play(t, m, saving(uint32(now), 4, spans(5, 4)))
		saves(t, "in doubt", d, spans(5, 4), true, api.OK)
		alike(t, "in doubt", d, m)
	}
	d, m := load(t, b), load(t, b)
	play(t, d, []act{{'s', 1024, 0}})
	play(t, m, []act{{'s', 1024, 0}})
	play(t, m, saving(0, 1, spans(5, 4)))
	saves(t, "a record that goes", d, spans(5, 4), true, api.OK)
	alike(t, "a record that goes", d, m)
}

func TestP13_3Steps(t *testing.T) {
	r := chance()
	for _, b := range [][]byte{make([]byte, 512), make([]byte, 1024), filled(r, small), unmounted(t, r, large, 7, spans(5, 3))} {
		for cut := 0; cut <= 3; cut++ {
			d, m := load(t, b), load(t, b)
			d.Arm(cut)
			if cut == 3 {
				forgets(t, "P13.3", d, api.OK)
			} else {
				forgets(t, "P13.3", d, api.ErrDead)
			}
			play(t, m, named(0)[:cut])
			alike(t, "P13.3", d, m)
		}
	}
}

// TestP13_3Again: also where the clean word is 0 already the three steps are done.
func TestP13_3Again(t *testing.T) {
	d := device(t, 512)
	for n := 1; n <= 3; n++ {
		forgets(t, "again", d, api.OK)
		stepsDone(t, "again", d, 3*n)
	}
	if e := saved.Forget(d); e != api.OK || len(d.Doubts()) != 0 {
		t.Errorf("Forget = %v, doubts %v", e, d.Doubts())
	}
}
