package extents_test

import (
	"math"
	"math/rand"
	"slices"
	"testing"

	"furrow/api"
	"furrow/extents"
)

// lengths: bitmaps of no mark, of one, of both sides of 64 and its multiples, of the most.
var lengths = []int{0, 1, 2, 8, 63, 64, 65, 127, 128, 129, 500, 960, 961, 1023, 1024}

func TestP5_1LengthOfABitmap(t *testing.T) {
	for _, n := range lengths {
		b := extents.NewBitmap(n)
		sameInt(t, "Count of a new one", b.Count(), 0)
		for i := -1; i <= 1025; i++ {
			if b.Has(i) {
				t.Fatalf("NewBitmap(%d).Has(%d)", n, i)
			}
		}
		for i := -70; i <= 1100; i++ {
			if b.Set(i) != (0 <= i && i < n) {
				t.Fatalf("NewBitmap(%d).Set(%d) is %v", n, i, !(0 <= i && i < n))
			}
		}
		sameInt(t, "Count of a full one", b.Count(), n)
	}
}

func TestP5_1LengthsThatAreNone(t *testing.T) {
	for _, n := range []int{-1, -2, -64, -1024, math.MinInt, math.MinInt + 1, -1 << 32, -1<<32 + 5} {
		b := extents.NewBitmap(n)
		if b == nil || b.Set(0) || b.Set(-1) || b.Set(n) || b.Count() != 0 || len(b.Holes(math.MinInt, math.MaxInt)) != 0 {
			t.Errorf("NewBitmap(%d) has a mark", n)
		}
	}
	for _, n := range []int{1025, 1026, 2048, 1 << 20, 1<<32 + 5, math.MaxInt - 1, math.MaxInt} {
		b := extents.NewBitmap(n)
		sameSpans(t, "a bitmap of too many", b.Holes(math.MinInt, math.MaxInt), sp(0, api.MaxPages))
		if b.Set(1024) || b.Set(n-1) || !b.Set(1023) || b.Count() != 1 {
			t.Errorf("NewBitmap(%d) hasn't the marks 0 to 1023", n)
		}
	}
}

func TestP5_1BitmapsOfTheirOwn(t *testing.T) {
	a, b := extents.NewBitmap(8), extents.NewBitmap(8)
	a.Set(3)
	if b.Has(3) || b.Count() != 0 || !b.Set(3) {
		t.Error("a mark of one bitmap is seen in another")
	}
}

func TestP5_2SetHasCount(t *testing.T) {
	for seed := range int64(20) {
		r := rand.New(rand.NewSource(seed))
		n := lengths[r.Intn(len(lengths))]
		b := extents.NewBitmap(n)
		set := map[int]int{}
		for range 600 {
			i := r.Intn(n+8) - 4
			fresh := 0 <= i && i < n && set[i] == 0
			if got := b.Set(i); got != fresh {
				t.Fatalf("seed %d: Set(%d) = %v of %d marks", seed, i, got, n)
			}
			if fresh {
				set[i] = 1
			}
			sameInt(t, "Count", b.Count(), len(set))
			if i = r.Intn(n+8) - 4; b.Has(i) != (set[i] == 1) {
				t.Fatalf("seed %d: Has(%d) = %v", seed, i, b.Has(i))
			}
		}
	}
}

func TestP5_2EachMarkAlone(t *testing.T) {
	for i := range 1024 {
		b := bitmap(t, 1024, i)
		if b.Set(i) || b.Count() != 1 || !b.Has(i) {
			t.Fatalf("mark %d is set: Set %v, Count %d, Has %v", i, b.Set(i), b.Count(), b.Has(i))
		}
		for _, k := range []int{i - 64, i - 1, i + 1, i + 64, 1023 - i} {
			if k != i && b.Has(k) {
				t.Fatalf("mark %d is set, and so is %d", i, k)
			}
		}
	}
}

func TestP5_2WildNumbers(t *testing.T) {
	b := bitmap(t, 100, 0, 6, 36, 63, 64, 99)
	for _, i := range append([]int{100, 101}, wild...) {
		if b.Set(i) || b.Has(i) || b.Count() != 6 {
			t.Errorf("the number %d: Set, Has, Count %d", i, b.Count())
		}
	}
	sameSpans(t, "what isn't set", b.Holes(0, 100), sp(1, 5, 7, 29, 37, 26, 65, 34))
}

// marked: which of the numbers from 0 up to n a bitmap has.
func marked(b *extents.Bitmap, n int) []int {
	var l []int
	for i := range n {
		if b.Has(i) {
			l = append(l, i)
		}
	}
	return l
}

func TestP5_3Merge(t *testing.T) {
	for seed := range int64(300) {
		r := rand.New(rand.NewSource(seed))
		n, m := lengths[r.Intn(len(lengths))], lengths[r.Intn(len(lengths))]
		b, o := extents.NewBitmap(n), extents.NewBitmap(m)
		part := []int{1, 2, 20, 100, 1 << 20}[r.Intn(5)]
		for i := range 1024 {
			if r.Intn(part) == 0 {
				b.Set(i)
			}
			if r.Intn(part) == 0 {
				o.Set(i)
			}
		}
		var want []int
		least := -1
		for i := range n {
			if b.Has(i) && o.Has(i) && least == -1 {
				least = i
			}
			if b.Has(i) || o.Has(i) {
				want = append(want, i)
			}
		}
		others := marked(o, 1025)
		sameInt(t, "Merge", b.Merge(o), least)
		if !slices.Equal(marked(b, 1025), want) || b.Count() != len(want) {
			t.Fatalf("seed %d: behind Merge %v are set, want %v", seed, marked(b, 1025), want)
		}
		if !slices.Equal(marked(o, 1025), others) || o.Count() != len(others) {
			t.Fatalf("seed %d: Merge changed the other bitmap", seed)
		}
	}
}

func TestP5_3MergeTellsWhatWasSetBefore(t *testing.T) {
	for _, c := range []struct{ b, o, least int }{{5, 6, -1}, {6, 6, 6}, {0, 0, 0}, {63, 64, -1}, {64, 64, 64}, {99, 99, 99}} {
		b, o := bitmap(t, 100, c.b), bitmap(t, 100, c.o)
		sameInt(t, "Merge", b.Merge(o), c.least)
		sameInt(t, "Merge again", b.Merge(o), c.o)
	}
	b, o := bitmap(t, 100, 70, 80, 90), bitmap(t, 100, 60, 80, 90)
	sameInt(t, "the least of two", b.Merge(o), 80)
	sameInt(t, "Count", b.Count(), 4)
}

func TestP5_3MergeOfUnlikeLengths(t *testing.T) {
	b, o := bitmap(t, 64, 3), bitmap(t, 1024, 64, 65, 1023)
	sameInt(t, "marks that b hasn't", b.Merge(o), -1)
	sameInt(t, "Count", b.Count(), 1)
	sameInt(t, "the longer one", o.Merge(b), -1)
	sameInt(t, "Count of the longer one", o.Count(), 4)
	none := extents.NewBitmap(0)
	sameInt(t, "no marks at all", none.Merge(o), -1)
	sameInt(t, "Count of none", none.Count(), 0)
	sameInt(t, "Merge of no marks", o.Merge(none), -1)
	sameInt(t, "Count", o.Count(), 4)
}

func TestP5_3MergeOfNilAndOfItself(t *testing.T) {
	for _, set := range [][]int{{}, {0}, {99}, {63, 64}, {7, 3}} {
		b := bitmap(t, 100, set...)
		least := -1
		if len(set) > 0 {
			least = slices.Min(set)
		}
		sameInt(t, "Merge(nil)", b.Merge(nil), -1)
		sameInt(t, "Merge of itself", b.Merge(b), least)
		slices.Sort(set)
		if !slices.Equal(marked(b, 1025), set) {
			t.Errorf("of %v set are left %v", set, marked(b, 1025))
		}
	}
}

func TestP5_3MergedBitmapsGoTheirOwnWays(t *testing.T) {
	b, o := bitmap(t, 70, 1), bitmap(t, 70, 2)
	b.Merge(o)
	o.Set(3)
	b.Set(69)
	if b.Has(3) || o.Has(69) || o.Has(1) || o.Count() != 2 || b.Count() != 3 {
		t.Error("behind a Merge one bitmap sees what is set in the other")
	}
}

// holes: P5.4, by its words.
func holes(b *extents.Bitmap, n, lo, hi int) []api.Span {
	var l []int
	for i := range n {
		if lo <= i && i < hi && !b.Has(i) {
			l = append(l, i)
		}
	}
	return spansOf(l)
}

func TestP5_4Holes(t *testing.T) {
	for seed := range int64(100) {
		r := rand.New(rand.NewSource(seed))
		n := lengths[r.Intn(len(lengths))]
		b := extents.NewBitmap(n)
		part := []int{1, 2, 3, 10, 100, 1 << 20}[r.Intn(6)]
		for i := range n {
			if r.Intn(part) == 0 {
				b.Set(i)
			}
		}
		ends := append([]int{0, 1, 63, 64, 65, n - 1, n, n + 1}, wild...)
		for range 6 {
			ends = append(ends, r.Intn(n+1))
		}
		count := b.Count()
		for _, lo := range ends {
			for _, hi := range ends {
				if got, want := b.Holes(lo, hi), holes(b, n, lo, hi); !slices.Equal(got, want) {
					t.Fatalf("seed %d: Holes(%d, %d) = %v, want %v", seed, lo, hi, got, want)
				}
			}
		}
		sameInt(t, "Count behind Holes", b.Count(), count)
	}
}

func TestP5_4HolesOfEverySmallBitmap(t *testing.T) {
	for n := range 7 {
		for set := range 1 << n {
			b := extents.NewBitmap(n)
			for i := range n {
				if set>>i&1 == 1 {
					b.Set(i)
				}
			}
			for lo := -2; lo < 9; lo++ {
				for hi := -2; hi < 9; hi++ {
					sameSpans(t, "Holes", b.Holes(lo, hi), holes(b, n, lo, hi))
				}
			}
		}
	}
}

func TestP5_4HolesWhereThereIsNone(t *testing.T) {
	b := bitmap(t, 8, 1)
	for _, c := range [][2]int{{0, 0}, {5, 5}, {5, 4}, {8, 0}, {1, 2}, {8, 9}, {8, math.MaxInt}, {-5, 0}, {math.MinInt, 0}, {math.MaxInt, math.MinInt}, {math.MinInt, math.MinInt}, {math.MaxInt, math.MaxInt}, {math.MaxInt, 0}, {0, math.MinInt}, {math.MaxInt - 1, math.MinInt}} {
		if l := b.Holes(c[0], c[1]); len(l) != 0 {
			t.Errorf("Holes(%d, %d) = %v", c[0], c[1], l)
		}
	}
	full := extents.NewBitmap(0)
	if len(full.Holes(-1, 5)) != 0 {
		t.Error("holes of a bitmap without marks")
	}
}
