package layout_test

import (
	"fmt"
	"math"
	"testing"

	"furrow/api"
	"furrow/layout"
)

var (
	someInodes = []int{1, 2, 9, 255, 256}
	noInodes   = append([]int{0, 257, 258, 512}, wild...)
	kinds      = append([]int{0, 1, 2, 3, 4, 255, 256, 257, 258}, wild...)
	links      = append([]int{0, 1, 2, 50, 99, 100, 101, 255, 256, 257, 1 << 24, 1<<24 + 1}, wild...)
	pages      = append([]int{0, 1, 4, 5, 6, 500, 1022, 1023, 1024, 1025, 65536, 65541}, wild...)
	tails      = append([]int{0, 1, 63, 64, 512, 576, 640, 2559, 2560, 2561, 2623, 2624, 2625, 2687, 2688, 2689, 2752, 3008, 3071, 3072, 3073, 3136, 3200, 523776, 523840, 523904, 524224, 524287, 524288, 524289, 524352, 524416, 524800}, wild...)
)

// goodTail: the chapter's words, from the entries' side: a tail is what stands just behind one of the seven entries of a data page.
func goodTail(tail int) bool {
	for page := 5; page <= 1023; page++ {
		for entry := 1; entry <= 7; entry++ {
			if tail == 512*page+64*entry+64 {
				return true
			}
		}
	}
	return false
}

func goodSlot(s api.Slot) bool {
	if s == (api.Slot{}) {
		return true
	}
	file := s.Kind == 1 && s.Links >= 1 && s.Links <= 100
	dir := s.Kind == 2 && s.Links == 1
	empty := s.Head == 0 && s.Tail == 0
	return (file || dir) && (empty || isData(s.Head) && goodTail(s.Tail))
}

func slotWords(ino int, s api.Slot) [3]uint64 {
	at := 2048 + 64*(ino-1)
	return [3]uint64{seal(at, uint32(s.Kind+256*s.Links)), seal(at+8, uint32(s.Head)), seal(at+16, uint32(s.Tail))}
}

func packsSlot(t *testing.T, ino int, s api.Slot, good bool) {
	t.Helper()
	want, f := [3]uint64{}, api.ErrSlot
	if good {
		want, f = slotWords(ino, s), api.OK
	}
	w, e := layout.PackSlot(ino, s)
	answered(t, fmt.Sprintf("PackSlot(%d, %+v)", ino, s), w, e, want, f)
}

func opensSlot(t *testing.T, ino int, w [3]uint64, want api.Slot, f api.Errno) {
	t.Helper()
	s, e := layout.OpenSlot(ino, w)
	answered(t, fmt.Sprintf("OpenSlot(%d, %x)", ino, w), s, e, want, f)
}

func TestP3_6KindsAndLinks(t *testing.T) {
	for _, kind := range kinds {
		for _, n := range links {
			for _, log := range []api.Slot{{}, {Head: 5, Tail: 2688}, {Head: 5}, {Tail: 2688}} {
				s := api.Slot{Kind: kind, Links: n, Head: log.Head, Tail: log.Tail}
				packsSlot(t, 2, s, goodSlot(s))
			}
		}
	}
}

func TestP3_6HeadsAndTails(t *testing.T) {
	for _, head := range pages {
		for _, tail := range tails {
			for _, s := range []api.Slot{{Kind: 1, Links: 100}, {Kind: 2, Links: 1}, {}} {
				s.Head, s.Tail = head, tail
				packsSlot(t, 256, s, goodSlot(s))
			}
		}
	}
}

func TestP3_6EveryTail(t *testing.T) {
	good := map[int]bool{}
	for page := 5; page <= 1023; page++ {
		for entry := 1; entry <= 7; entry++ {
			good[512*page+64*entry+64] = true
		}
	}
	for tail := -1024; tail <= 526336; tail++ {
		if tail%64 == 0 || tail < 4096 {
			s := api.Slot{Kind: 1, Links: 1, Head: 9, Tail: tail}
			if _, e := layout.PackSlot(3, s); (e == api.OK) != good[tail] {
				t.Errorf("PackSlot(3, %+v): %v", s, e)
			}
		}
	}
}

func TestP3_6Inodes(t *testing.T) {
	s := api.Slot{Kind: 1, Links: 2, Head: 5, Tail: 3072}
	for ino := 1; ino <= 256; ino++ {
		packsSlot(t, ino, s, true)
		packsSlot(t, ino, api.Slot{}, true)
	}
	for _, ino := range noInodes {
		packsSlot(t, ino, s, false)
		packsSlot(t, ino, api.Slot{}, false)
	}
}

func TestP3_7OpensWhatIsGood(t *testing.T) {
	for _, ino := range someInodes {
		for _, n := range []int{1, 2, 50, 99, 100} {
			for _, tail := range []int{2688, 3072, 523904, 524288} {
				for _, head := range []int{5, 6, 1023} {
					s := api.Slot{Kind: 1, Links: n, Head: head, Tail: tail}
					opensSlot(t, ino, slotWords(ino, s), s, api.OK)
				}
			}
			opensSlot(t, ino, slotWords(ino, api.Slot{Kind: 1, Links: n}), api.Slot{Kind: 1, Links: n}, api.OK)
		}
		for _, s := range []api.Slot{{}, {Kind: 2, Links: 1}, {Kind: 2, Links: 1, Head: 1023, Tail: 524288}} {
			opensSlot(t, ino, slotWords(ino, s), s, api.OK)
		}
	}
}

func TestP3_7Inodes(t *testing.T) {
	w := slotWords(1, api.Slot{Kind: 2, Links: 1})
	for _, ino := range noInodes {
		opensSlot(t, ino, [3]uint64{}, api.Slot{}, api.ErrSlot)
		opensSlot(t, ino, w, api.Slot{}, api.ErrSlot)
	}
	for ino := 2; ino <= 256; ino++ {
		opensSlot(t, ino, w, api.Slot{}, api.ErrSlot)
	}
}

func TestP3_7WhatIsNotLookedAt(t *testing.T) {
	for _, x := range []uint64{1, 1 << 32, seal(2120, 4), seal(2120, 5), math.MaxUint64} {
		for _, y := range []uint64{0, 1, seal(2128, 2624), seal(2128, 2688), math.MaxUint64} {
			opensSlot(t, 2, [3]uint64{0, x, y}, api.Slot{}, api.OK)
		}
		opensSlot(t, 2, [3]uint64{seal(2112, 257), x, 0}, api.Slot{Kind: 1, Links: 1}, api.OK)
	}
}

func TestP3_7Meta(t *testing.T) {
	for _, kind := range []uint32{0, 1, 2, 3, 4, 255} {
		for _, n := range []uint32{0, 1, 2, 99, 100, 101, 255, 256, 257, 1<<24 - 1} {
			want, f := api.Slot{}, api.ErrSlot
			s := api.Slot{Kind: int(kind), Links: int(n), Head: 7, Tail: 2688}
			if goodSlot(s) {
				want, f = s, api.OK
			}
			if kind+256*n == 0 {
				f = api.OK
			}
			opensSlot(t, 2, [3]uint64{seal(2112, kind+256*n), seal(2120, 7), seal(2128, 2688)}, want, f)
		}
	}
}

func TestP3_7HeadsAndTails(t *testing.T) {
	for _, head := range pages {
		for _, tail := range tails {
			s := api.Slot{Kind: 1, Links: 1, Head: int(uint32(head)), Tail: int(uint32(tail))}
			want, f := s, api.OK
			if uint32(tail) == 0 {
				want.Head = 0
			} else if !goodSlot(s) {
				want, f = api.Slot{}, api.ErrSlot
			}
			opensSlot(t, 2, [3]uint64{seal(2112, 257), seal(2120, uint32(head)), seal(2128, uint32(tail))}, want, f)
		}
	}
}

func TestP3_7WordsThatHoldNothing(t *testing.T) {
	w := slotWords(2, api.Slot{Kind: 1, Links: 1, Head: 5, Tail: 2688})
	for i := range w {
		for bit := range 64 {
			bad := w
			bad[i] ^= 1 << bit
			opensSlot(t, 2, bad, api.Slot{}, api.ErrSlot)
		}
		for _, x := range []uint64{1, 257, 1 << 32, math.MaxUint64} {
			bad := w
			bad[i] = x
			opensSlot(t, 2, bad, api.Slot{}, api.ErrSlot)
		}
	}
	opensSlot(t, 2, [3]uint64{w[0], w[1], 1}, api.Slot{}, api.ErrSlot)
	opensSlot(t, 2, [3]uint64{w[0], 0, w[2]}, api.Slot{}, api.ErrSlot)
	opensSlot(t, 2, [3]uint64{w[0], w[2], w[1]}, api.Slot{}, api.ErrSlot)
	opensSlot(t, 2, [3]uint64{seal(2176, 257), w[1], w[2]}, api.Slot{}, api.ErrSlot)
	opensSlot(t, 2, [3]uint64{w[0], seal(2128, 5), w[2]}, api.Slot{}, api.ErrSlot)
	opensSlot(t, 2, [3]uint64{w[0], w[1], seal(2120, 2688)}, api.Slot{}, api.ErrSlot)
}

func goodHeader(page int, h api.Header) bool {
	return isData(page) && isInode(h.Owner) && (h.Next == 0 || isData(h.Next))
}

func headerWords(page int, next, owner uint32) [2]uint64 {
	return [2]uint64{seal(512*page, next), seal(512*page+8, owner)}
}

func opensHeader(t *testing.T, page int, w [2]uint64, want api.Header, f api.Errno) {
	t.Helper()
	h, e := layout.OpenHeader(page, w)
	answered(t, fmt.Sprintf("OpenHeader(%d, %x)", page, w), h, e, want, f)
}

func TestP3_8PackHeader(t *testing.T) {
	owners := append([]int{1, 2, 9, 255, 256}, noInodes...)
	for _, page := range pages {
		for _, next := range pages {
			for _, owner := range owners {
				h := api.Header{Next: next, Owner: owner}
				want, f := [2]uint64{}, api.ErrHeader
				if goodHeader(page, h) {
					want, f = headerWords(page, uint32(next), uint32(owner)), api.OK
				}
				w, e := layout.PackHeader(page, h)
				answered(t, fmt.Sprintf("PackHeader(%d, %+v)", page, h), w, e, want, f)
			}
		}
	}
}

func TestP3_8OpenHeader(t *testing.T) {
	for _, page := range pages {
		for _, next := range pages {
			for _, owner := range []int{0, 1, 2, 9, 255, 256, 257, 65537, 1 << 31, math.MaxUint32} {
				h := api.Header{Next: int(uint32(next)), Owner: owner}
				want, f := api.Header{}, api.ErrHeader
				if goodHeader(page, h) {
					want, f = h, api.OK
				}
				opensHeader(t, page, headerWords(page, uint32(next), uint32(owner)), want, f)
			}
		}
	}
}

func TestP3_8ItsOwnNext(t *testing.T) {
	for _, page := range []int{5, 77, 1023} {
		opensHeader(t, page, headerWords(page, uint32(page), 3), api.Header{Next: page, Owner: 3}, api.OK)
	}
}

func TestP3_8WordsThatHoldNothing(t *testing.T) {
	for _, w := range [][2]uint64{headerWords(5, 9, 1), headerWords(5, 0, 1)} {
		for i := range w {
			for bit := range 64 {
				bad := w
				bad[i] ^= 1 << bit
				opensHeader(t, 5, bad, api.Header{}, api.ErrHeader)
			}
		}
		opensHeader(t, 6, w, api.Header{}, api.ErrHeader)
		opensHeader(t, 5, [2]uint64{w[0], 0}, api.Header{}, api.ErrHeader)
		opensHeader(t, 5, [2]uint64{w[1], w[0]}, api.Header{}, api.ErrHeader)
		opensHeader(t, 5, [2]uint64{seal(2568, 9), w[1]}, api.Header{}, api.ErrHeader)
		opensHeader(t, 5, [2]uint64{w[0], seal(2560, 1)}, api.Header{}, api.ErrHeader)
	}
	opensHeader(t, 5, [2]uint64{}, api.Header{}, api.ErrHeader)
}
