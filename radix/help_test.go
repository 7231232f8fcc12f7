package radix_test

import (
	"math"
	"math/rand"
	"slices"
	"testing"

	"furrow/api"
	"furrow/radix"
)

// wild: numbers that are no offset; some of them are when their higher bits are cut off.
var wild = []int{-1, -2, -7, -8, -64, -511, -512, 512, 513, 519, 520, 575, 576, 1023, 1024, 4096, 1<<31 - 1, 1 << 31, 1<<32 + 5, -1<<32 + 5, 1 << 62, math.MaxInt, math.MaxInt - 511, math.MinInt, math.MinInt + 1, math.MinInt + 511}

// edges: the offsets at which nodes of each level begin and end, and some between.
var edges = []int{0, 1, 5, 7, 8, 9, 15, 16, 62, 63, 64, 65, 71, 72, 127, 128, 255, 256, 447, 448, 503, 504, 510, 511}

// pair: what an iterator hands on.
type pair[V any] struct {
	off int
	v   V
}

// model: a tree by the chapter's words: a value an offset, the zero value where there is a hole.
type model[V comparable] [512]V

func (m *model[V]) set(off int, v V) (V, api.Errno) {
	var zero V
	if off < 0 || off > 511 {
		return zero, api.ErrOff
	}
	was := m[off]
	m[off] = v
	return was, api.OK
}

func (m *model[V]) from(off int) []pair[V] {
	var zero V
	var l []pair[V]
	for o, v := range m {
		if o >= off && v != zero {
			l = append(l, pair[V]{o, v})
		}
	}
	return l
}

func (m *model[V]) cut(from int) []V {
	var zero V
	var l []V
	for _, p := range m.from(from) {
		l = append(l, p.v)
		m[p.off] = zero
	}
	return l
}

// walk: what From hands on, stopped behind most of them (-1: never).
func walk[V comparable](r *radix.Tree[V], off, most int) []pair[V] {
	var l []pair[V]
	for o, v := range r.From(off) {
		l = append(l, pair[V]{o, v})
		if len(l) == most {
			break
		}
	}
	return l
}

// agree: the tree tells what the model has, by every call that tells something.
func (m *model[V]) agree(t *testing.T, what string, r *radix.Tree[V]) {
	t.Helper()
	for off, v := range m {
		if got := r.Get(off); got != v {
			t.Fatalf("%s: Get(%d) = %v, want %v", what, off, got, v)
		}
	}
	all := m.from(0)
	if got := walk(r, 0, -1); !slices.Equal(got, all) {
		t.Fatalf("%s: From(0) = %v, want %v", what, got, all)
	}
	if got := r.Len(); got != len(all) {
		t.Fatalf("%s: Len() = %d, want %d", what, got, len(all))
	}
}

// put: Set answers what the model does.
func (m *model[V]) put(t *testing.T, r *radix.Tree[V], off int, v V) {
	t.Helper()
	want, e := m.set(off, v)
	if got, f := r.Set(off, v); got != want || f != e {
		t.Fatalf("Set(%d, %v) = %v, %d, want %v, %d", off, v, got, f, want, e)
	}
}

// grown: a tree and its model with these offsets' values; each value is told apart from the others'.
func grown(t *testing.T, offs ...int) (*radix.Tree[int], *model[int]) {
	t.Helper()
	r, m := radix.New[int](), &model[int]{}
	for _, off := range offs {
		m.put(t, r, off, 10000+3*off)
	}
	return r, m
}

func every() []int {
	l := make([]int, 512)
	for i := range l {
		l[i] = i
	}
	return l
}

// some: lists of offsets, from none to all.
func some() [][]int {
	l := [][]int{nil, {0}, {511}, {7, 8}, {63, 64}, {0, 511}, {256}, edges, every()}
	for i := range 12 {
		l = append(l, drawn(int64(i), 1+i*i))
	}
	return l
}

// drawn: offsets in no order, none twice.
func drawn(seed int64, n int) []int {
	return rand.New(rand.NewSource(seed)).Perm(512)[:n]
}

// rn: runs by their numbers: Off, Page, Count, Off, Page, Count ..
func rn(n ...int) []api.Run {
	var l []api.Run
	for i := 0; i < len(n); i += 3 {
		l = append(l, api.Run{Off: n[i], Page: n[i+1], Count: n[i+2]})
	}
	return l
}

func sameRuns(t *testing.T, what string, got, want []api.Run) {
	t.Helper()
	if !slices.Equal(got, want) {
		t.Fatalf("%s: %v, want %v", what, got, want)
	}
}

func load(t *testing.T, runs []api.Run) *radix.Tree[int] {
	t.Helper()
	r, e := radix.Load(runs)
	if r == nil || e != api.OK {
		t.Fatalf("Load(%v): %v, %d", runs, r, e)
	}
	return r
}
