package ilog_test

import (
	"math"
	"math/big"
	"testing"

	"furrow/ilog"
)

// needs: 6.1 in its words, in whole numbers of any length.
func needs(tail, n int) int {
	switch {
	case n < 1:
		return 0
	case tail != 0 && !isTail(tail):
		return -1
	}
	f := 0
	if tail != 0 {
		last := (tail - 1) / 512
		f = (512*(last+1) - tail) / 64
	}
	if n <= f {
		return 0
	}
	whole, rest := new(big.Int).DivMod(big.NewInt(int64(n-f)), big.NewInt(7), new(big.Int))
	if rest.Sign() != 0 {
		whole.Add(whole, big.NewInt(1))
	}
	return int(whole.Int64())
}

func need(t *testing.T, tail, n int) {
	t.Helper()
	if got, want := ilog.Need(tail, n), needs(tail, n); got != want {
		t.Errorf("Need(%d, %d) = %d, want %d", tail, n, got, want)
	}
}

func TestP6_1EveryTail(t *testing.T) {
	for tail := -70; tail < 525000; tail++ {
		if tail%8 == 0 || tail < 4000 {
			for _, n := range []int{-1, 0, 1, 7} {
				need(t, tail, n)
			}
		}
	}
}

func TestP6_1EveryNumber(t *testing.T) {
	for _, tail := range []int{0, 2688, 2752, 2816, 2880, 2944, 3008, 3072, 3200, 3584, 524224, 524288, 64, 2624, 3136, 2560, 524352} {
		for n := -10; n < 200; n++ {
			need(t, tail, n)
		}
	}
}

// TestP6_1FreePlaces: what the last page has room for wants no page, and one more wants one.
func TestP6_1FreePlaces(t *testing.T) {
	for used := 1; used <= 7; used++ {
		tail := 9*512 + 64 + 64*used
		if a, b, c := ilog.Need(tail, 7-used), ilog.Need(tail, 8-used), ilog.Need(tail, 15-used); a != 0 || b != 1 || c != 2 {
			t.Errorf("with %d entries on the last page: %d, %d, %d pages", used, a, b, c)
		}
	}
}

func TestP6_1WildNumbers(t *testing.T) {
	for _, n := range append(wild, 0, 1, 6, 7, math.MaxInt-1, math.MaxInt-6, math.MaxInt-7) {
		for _, tail := range append(wild, 0, 2688, 3008, 3072, 524288) {
			need(t, tail, n)
		}
	}
	if n := ilog.Need(0, math.MaxInt); n != 1317624576693539401 {
		t.Errorf("Need(0, the greatest) = %d", n)
	}
	if n := ilog.Need(math.MinInt, math.MinInt); n != 0 {
		t.Errorf("Need of the least = %d", n)
	}
	if n := ilog.Need(math.MinInt, 1); n != -1 {
		t.Errorf("Need(the least, 1) = %d", n)
	}
}
