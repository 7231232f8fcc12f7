package ship_test

import (
	"errors"
	"math"
	"math/rand"
	"strings"
	"testing"

	"furrow/api"
	"furrow/fs"
	"furrow/ship"
)

// needs: whether a step has this room, alone and among others.
func needs(t *testing.T, s api.Step, want int) {
	t.Helper()
	if n := ship.Room([]api.Step{s}); n != want {
		t.Errorf("P23.6: Room of kind %d at %d, %d bytes = %d; want %d", s.Kind, s.N, len(s.B), n, want)
	}
	if n := ship.Room([]api.Step{create("/a"), s, truncate("/a", 0), s}); n != 3+2*want {
		t.Errorf("P23.6: Room of kind %d at %d, %d bytes, twice, and others = %d; want %d", s.Kind, s.N, len(s.B), n, 3+2*want)
	}
}

// P23.6: each kind.
func TestP23_6Kinds(t *testing.T) {
	for kind, want := range map[int]int{4: 1, 5: 1, 6: 1, 7: 1, 9: 1, 12: 2} {
		needs(t, api.Step{Kind: kind}, want)
		needs(t, api.Step{Kind: kind, A: "no path", B: "x", N: -1, M: -1, K: -1, List: []int{1}}, want)
		needs(t, api.Step{Kind: kind, N: math.MaxInt, B: strings.Repeat("x", 5000)}, want)
	}
	for _, kind := range []int{0, 1, 2, 3, 8, 10, 13, 14, 15, 16, 17, 18, 19, 20, 21, 22, 77, -4, -11, 1<<32 + 4, math.MaxInt, math.MinInt} {
		needs(t, api.Step{Kind: kind}, 0)
		needs(t, api.Step{Kind: kind, A: "/a", N: 1, B: "x"}, 0)
	}
	if n := ship.Room(nil) + ship.Room([]api.Step{}); n != 0 {
		t.Errorf("P23.6: Room of no steps = %d", n)
	}
}

// P23.6: writes at the edges of pages, of files and of numbers.
func TestP23_6Writes(t *testing.T) {
	for _, many := range []int{0, 1, 2, 3, 511, 512, 513, 514, 1024, 1025, 3584, 3585, 4095, 4096, 4097, 5000, 300000} {
		data := strings.Repeat("x", many)
		for _, off := range append([]int{0, 1, 2, 510, 511, 512, 513, 1023, 1024, api.MaxSize - 4097, api.MaxSize - 4096, api.MaxSize - 4095, api.MaxSize - 513, api.MaxSize - 512, api.MaxSize - 511, api.MaxSize - 2}, wild...) {
			s := write("/a", off, data)
			needs(t, s, modelRoom([]api.Step{s}))
		}
	}
	for _, c := range []struct{ off, many, want int }{
		{510, 4, 4}, {510, 2, 3}, {511, 2, 4}, {0, 1, 3}, {0, 512, 3}, {0, 513, 4}, {0, 4096, 10}, {1, 4096, 11}, {511, 4096, 11}, {512, 4096, 10}, {0, 4097, 0}, {5, 0, 0},
		{-1, 1, 0}, {-1, 4096, 0}, {api.MaxSize - 1, 1, 3}, {api.MaxSize - 1, 2, 0}, {api.MaxSize, 1, 0}, {api.MaxSize, 0, 0}, {api.MaxSize - 4096, 4096, 10}, {api.MaxSize - 4095, 4096, 0},
		{math.MaxInt, 1, 0}, {math.MaxInt - 1, 1, 0}, {math.MaxInt, 4096, 0}, {math.MinInt, 1, 0}, {math.MinInt, 4096, 0},
	} {
		needs(t, write("/a", c.off, strings.Repeat("x", c.many)), c.want)
	}
}

// P23.6: drawn lists are the sum of their steps.
func TestP23_6Drawn(t *testing.T) {
	r := chance()
	for range 3000 {
		list := anySteps(r, 40)
		if n, want := ship.Room(list), modelRoom(list); n != want {
			t.Fatalf("P23.6: Room = %d; want %d of%s", n, want, told(list))
		}
	}
}

// freePages: how many a file system has.
func freePages(t *testing.T, f *fs.FS) int {
	t.Helper()
	i, err := f.Info()
	if err != nil {
		t.Fatal("Info", err)
	}
	return i.FreePages
}

// stuffed: a file takes pages till so many are free, or a few more; whether so many are.
func stuffed(t *testing.T, f *fs.FS, room int) bool {
	t.Helper()
	if freePages(t, f) < room+2 {
		return false
	}
	did(t, f.Create("/zz stuff"))
	off := 0
	for freePages(t, f) > room {
		data := "x"
		if freePages(t, f) > room+12 {
			data = strings.Repeat("x", 4096)
		}
		if f.Write("/zz stuff", off, data) != nil { // two pages are free, and it wants three
			break
		}
		off += max(512, len(data))
	}
	if freePages(t, f) < room { // the file's log took a page too
		_ = f.Truncate("/zz stuff", off-512)
	}
	return freePages(t, f) >= room
}

// spent: a list is played with just its room free, or as near to it as can be; how many pages were more than that.
func spent(t *testing.T, r *rand.Rand, from []byte, list []api.Step) (over int, was bool) {
	t.Helper()
	_, f := holding(t, pick(r, tight, middling), from)
	room := ship.Room(list)
	if !stuffed(t, f, room) {
		return 0, false
	}
	over = freePages(t, f) - room
	for len(list) > 0 { // a step that is refused for what is there is left out
		n, err := ship.Apply(f, list)
		if errors.Is(err, api.ErrNoSpace) {
			t.Fatalf("P23.6: step %d: %v, though %d pages were free, of %d that suffice:%s", n, err, room+over, room, told(list))
		}
		list = list[min(n+1, len(list)):]
	}
	return over, true
}

// P23.6: with its room free no step of a list is refused for want of pages: of ways from tree to tree, and of any steps.
func TestP23_6Suffices(t *testing.T) {
	r := chance()
	seen := map[int]int{}
	for range 1200 {
		from, to := drawnPair(r, 12, 2500)
		list := planned(t, made(t, from...), made(t, to...))
		if r.Intn(2) == 0 {
			list = anySteps(r, 25)
		}
		if over, was := spent(t, r, made(t, from...), list); was {
			seen[over]++
		}
	}
	if seen[0] < 600 {
		t.Errorf("just the room was free %d times; so many more pages so often: %v", seen[0], seen)
	}
}
