package gc_test

import (
	"math"
	"slices"
	"testing"

	"furrow/api"
	"furrow/gc"
)

// counted: a good node, and how many canonical entries it has.
type counted struct {
	what    string
	n       api.Node
	entries int
}

// countedNodes: nodes on both sides of each edge: none, a page full, one more.
func countedNodes() []counted {
	list := []counted{
		{"an empty file", file(0), 0}, {"a file of holes", file(1), 1}, {"the greatest file of holes", file(262144), 1},
		{"one page", file(1, 0, 5, 1), 1}, {"16 pages", file(8192, 0, 30, 16), 1}, {"17 pages", file(8704, 0, 30, 17), 2}, {"two runs", file(8192, 0, 30, 2, 3, 60, 2), 2},
		{"112 pages", file(262144, 0, 30, 112), 7}, {"113 pages", file(262144, 0, 30, 113), 8}, {"224 pages", file(262144, 9, 30, 224), 14}, {"225 pages", file(262144, 9, 30, 225), 15},
		{"512 pages", file(262144, 0, 512, 512), 32},
	}
	for names := range 40 {
		list = append(list, counted{"names", dir(names, 0), names})
	}
	for _, names := range []int{255, 256, 700, 701, 5000} {
		list = append(list, counted{"many names", dir(names, 0), names})
	}
	var scattered []int
	for off := range 512 {
		scattered = append(scattered, off, 600-off, 1)
		list = append(list, counted{"scattered pages", file(512*(off+1), scattered...), off + 1})
	}
	return list
}

// notGood: nodes that aren't good, each with a log that would be due.
func notGood() []api.Node {
	list := []api.Node{
		{}, {Kind: 3}, {Kind: 1, Size: -1}, {Kind: 1, Size: 262145}, {Kind: 2, Size: 1}, {Kind: 2, Map: runs(0, 10, 1)},
		{Kind: 1, Names: []api.Dent{{Name: "a", Ino: 2}}}, {Kind: 0, Names: []api.Dent{{Name: "a", Ino: 2}}},
		file(512, 0, 10, 2), file(0, 0, 10, 1), file(1024, 0, 10, 1, 1, 11, 1), file(1024, 1, 10, 1, 0, 20, 1), file(512, 0, 4, 1), file(512, 0, 1024, 1), file(512, 0, 10, 0), file(512, -1, 10, 1),
		{Kind: 2, Names: []api.Dent{{Name: "b", Ino: 2}, {Name: "a", Ino: 2}}}, {Kind: 2, Names: []api.Dent{{Name: "a", Ino: 2}, {Name: "a", Ino: 2}}},
		{Kind: 2, Names: []api.Dent{{Name: "", Ino: 2}}}, {Kind: 2, Names: []api.Dent{{Name: "..", Ino: 2}}}, {Kind: 2, Names: []api.Dent{{Name: "a", Ino: 1}}}, {Kind: 2, Names: []api.Dent{{Name: "a", Ino: 257}}},
	}
	for _, n := range wild {
		list = append(list, api.Node{Kind: n}, file(n), file(512, n, 10, 1), file(512, 0, n, 1), file(512, 0, 10, n), file(512, n, n, n), api.Node{Kind: 2, Size: n}, api.Node{Kind: 2, Names: []api.Dent{{Name: "a", Ino: n}}})
	}
	for i := range list {
		list[i].Entries = 9999
	}
	return list
}

func TestP10_1Want(t *testing.T) {
	for _, c := range countedNodes() {
		if l := canon(t, c.n); len(l) != c.entries {
			t.Fatalf("%s: %d canonical entries, want %d", c.what, len(l), c.entries)
		}
		if got := gc.Want(c.n); got != sheets(c.entries) {
			t.Errorf("%s: Want %d of %d entries, want %d", c.what, got, c.entries, sheets(c.entries))
		}
	}
}

func TestP10_1WantOfNoGoodNode(t *testing.T) {
	for _, n := range notGood() {
		if got := gc.Want(n); got != 0 {
			t.Errorf("Want(%+v) = %d", n, got)
		}
	}
}

func TestP10_2Due(t *testing.T) {
	edges := []int{math.MinInt, -9999, -14, -1, 0, 1, 7, 12, 13, 14, 15, 16, 9998, 9999, 10000, 1 << 40, math.MaxInt}
	for _, c := range countedNodes() {
		twice := 2 * c.entries
		for _, entries := range slices.Concat(edges, []int{c.entries, twice - 2, twice - 1, twice, twice + 1}) {
			c.n.Entries = entries
			if got, want := gc.Due(c.n), entries >= 14 && entries >= twice; got != want {
				t.Errorf("%s: Due %v with %d entries, %d canonical ones", c.what, got, entries, c.entries)
			}
		}
	}
}

func TestP10_2DueOfNoGoodNode(t *testing.T) {
	for _, n := range notGood() {
		for _, entries := range []int{0, 13, 14, 9999, math.MaxInt, math.MinInt} {
			n.Entries = entries
			if gc.Due(n) {
				t.Errorf("%+v is due", n)
			}
		}
	}
}

// TestP10_2OtherFields: Ino, Links, Head, Tail and Log are of no matter.
func TestP10_2OtherFields(t *testing.T) {
	for _, w := range append(wild, 0, 1, 5) {
		n := with(second(), func(n *api.Node) { n.Ino, n.Links, n.Head, n.Tail, n.Log = w, w, w, w, []int{w, w} })
		asked(t, "other fields", n, 1, true)
		n.Entries = 13
		asked(t, "other fields", n, 1, false)
		n = with(dir(8, 16), func(n *api.Node) { n.Ino, n.Links, n.Head, n.Tail, n.Log = w, w, w, w, nil })
		asked(t, "other fields", n, 2, true)
	}
}
