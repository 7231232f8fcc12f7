package extents_test

import (
	"math/rand"
	"testing"

	"furrow/api"
)

func TestP5_8Give(t *testing.T) {
	for seed := range int64(60) {
		r := rand.New(rand.NewSource(seed))
		for _, s := range shapes {
			free := someFree(r, s, []float64{0, 0.3, 0.7}[r.Intn(3)])
			p, m := pool(t, s, free), newModel(s, free)
			for range 12 {
				back := someBack(r, m)
				if len(back) > 6 {
					back = back[:r.Intn(6)]
				}
				for r.Intn(2) == 0 { // and now and then a page that may be free, twice there or none of the data area
					back = append(back, s.Data-1+r.Intn(s.Pages-s.Data+2))
				}
				r.Shuffle(len(back), func(i, k int) { back[i], back[k] = back[k], back[i] })
				sameErr(t, "Give", p.Give(back), m.give(back))
				m.agree(t, "behind Give", p)
			}
		}
	}
}

func TestP5_8Refused(t *testing.T) {
	for _, s := range shapes {
		free := sp(s.Data+2, 2)
		p, m := pool(t, s, free), newModel(s, free)
		good, held := s.Data, s.Data+2
		for _, n := range append([]int{0, 4, s.Data - 1, s.Pages}, wild...) {
			for _, l := range [][]int{{n}, {n, good}, {good, n}, {held, n}, {n, held}, {good, good, n}, {n, n}, {good, s.Pages - 1, n}} {
				sameErr(t, "Give of what is no data page", p.Give(l), api.ErrRange)
			}
		}
		for _, l := range [][]int{{held}, {held + 1}, {good, held}, {held, good}, {good, good}, {good, good + 1, good}, {s.Pages - 1, s.Pages - 1}, {held, held}, {good, s.Pages - 1, held + 1}} {
			sameErr(t, "Give of what is free or named twice", p.Give(l), api.ErrTwice)
		}
		m.agree(t, "behind refusals", p)
		sameErr(t, "Give behind refusals", p.Give([]int{good}), api.OK)
	}
}

func TestP5_8NoPages(t *testing.T) {
	p := pool(t, three, sp(7, 1))
	sameErr(t, "Give(nil)", p.Give(nil), api.OK)
	sameErr(t, "Give of an empty list", p.Give([]int{}), api.OK)
	sameSpans(t, "Spans", p.Spans(), sp(7, 1))
}

func TestP5_8AllOfThem(t *testing.T) {
	for _, s := range shapes {
		p, m := pool(t, s, nil), newModel(s, nil)
		back := someBack(rand.New(rand.NewSource(1)), m)
		rest := []int{}
		sameErr(t, "Give", p.Give(back), m.give(back))
		for page := s.Pages - 1; page >= s.Data; page-- {
			if !m.has(page) {
				rest = append(rest, page)
			}
		}
		sameErr(t, "Give of the rest, falling", p.Give(rest), m.give(rest))
		m.agree(t, "all free again", p)
		sameSpans(t, "Spans", p.Spans(), sp(s.Data, s.Pages-s.Data))
		for page := s.Data; page < s.Pages; page++ {
			sameErr(t, "Give of a free page", p.Give([]int{page}), api.ErrTwice)
		}
	}
}

// TestP5_8LongLists: more pages than a device has.
func TestP5_8LongLists(t *testing.T) {
	p := pool(t, wide, nil)
	long := make([]int, 100_000)
	for i := range long {
		long[i] = 36 + i%988
	}
	sameErr(t, "Give of a long list", p.Give(long), api.ErrTwice)
	long[len(long)-1] = 1024
	sameErr(t, "Give of a long list with no data page at its end", p.Give(long), api.ErrRange)
	sameInt(t, "Free", p.Free(), 0)
	sameErr(t, "Give of all", p.Give(long[:988]), api.OK)
	sameInt(t, "Free", p.Free(), 988)
}
