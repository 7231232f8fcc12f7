package replay_test

import (
	"math"
	"slices"
	"testing"

	"furrow/api"
)

// owning: nodes with this log and this map, and numbers in their other fields that aren't looked at.
func owning(log []int, runs ...api.Run) api.Node {
	return api.Node{Ino: -7, Kind: 9, Links: -1, Size: -1, Names: []api.Dent{{Name: "/", Ino: 4}}, Head: 4, Tail: -1, Entries: -5, Log: log, Map: runs}
}

// TestP11_2Shape: shapes that are none.
func TestP11_2Shape(t *testing.T) {
	for _, sh := range noShapes {
		owners(t, "no shape", sh, nil, nil, api.ErrRange)
		owners(t, "no shape", sh, []api.Node{owning([]int{5, 5})}, nil, api.ErrRange)
	}
	for _, sh := range []api.Shape{small, middling, large} {
		owners(t, "no nodes", sh, nil, nil, api.OK)
		owners(t, "nodes that own nothing", sh, []api.Node{owning(nil), owning([]int{})}, nil, api.OK)
	}
}

// TestP11_2Range: pages outside the data area, ahead of those that are named twice, in any node.
func TestP11_2Range(t *testing.T) {
	for _, sh := range []api.Shape{small, middling, large} {
		first, last := sh.Data, sh.Pages-1
		size := sh.Pages - sh.Data
		bad := []api.Node{
			owning([]int{first - 1}), owning([]int{last + 1}), owning([]int{0}), owning([]int{first, first, last + 1}),
			owning(nil, run(0, first, 0)), owning(nil, run(0, first, -1)), owning(nil, run(0, last, math.MinInt)), owning(nil, run(0, first-1, 1)), owning(nil, run(0, last+1, 1)), owning(nil, run(0, last, 2)), owning(nil, run(0, first, size+1)), owning(nil, run(0, first-1, size+1)),
			owning(nil, run(0, last+1, 0)), owning(nil, run(0, first, 1), run(0, last, 2)),
		}
		for _, w := range wild {
			bad = append(bad, owning([]int{w}), owning(nil, run(0, w, 1)), owning(nil, run(0, first, w)), owning(nil, run(0, last, w)), owning(nil, run(0, w, w)), owning(nil, run(0, w, -w)), owning(nil, run(0, w, first-w)), owning(nil, run(0, first-w, w)), owning(nil, run(0, -w, 2+w)))
		}
		twice := owning([]int{first, first})
		for _, n := range bad {
			owners(t, "outside", sh, []api.Node{n}, nil, api.ErrRange)
			owners(t, "twice, outside", sh, []api.Node{twice, n}, nil, api.ErrRange)
			owners(t, "outside, twice", sh, []api.Node{n, twice}, nil, api.ErrRange)
			owners(t, "amid others", sh, []api.Node{owning([]int{last}), owning(nil), n, owning(nil, run(3, first, 1))}, nil, api.ErrRange)
		}
		owners(t, "all pages", sh, []api.Node{owning(nil, run(0, first, size))}, rising(first, size), api.OK)
		owners(t, "the last", sh, []api.Node{owning([]int{last})}, []int{last}, api.OK)
	}
}

func rising(from, count int) (l []int) {
	for i := range count {
		l = append(l, from+i)
	}
	return l
}

// TestP11_2Twice: the least page that is named twice, wherever.
func TestP11_2Twice(t *testing.T) {
	for _, c := range []struct {
		nodes []api.Node
		page  int
	}{
		{[]api.Node{owning([]int{9}), owning([]int{9})}, 9},
		{[]api.Node{owning([]int{9, 9})}, 9},
		{[]api.Node{owning([]int{9, 8, 7, 8, 9, 9})}, 8},
		{[]api.Node{owning([]int{9}, run(0, 8, 3))}, 9},
		{[]api.Node{owning(nil, run(0, 8, 3), run(3, 10, 1))}, 10},
		{[]api.Node{owning(nil, run(0, 8, 3), run(3, 7, 3))}, 8},
		{[]api.Node{owning(nil, run(0, 8, 3)), owning(nil, run(0, 10, 9))}, 10},
		{[]api.Node{owning(nil, run(0, 8, 3)), owning([]int{5}), owning([]int{10, 8})}, 8},
		{[]api.Node{owning([]int{23, 5}), owning(nil, run(4, 20, 4)), owning([]int{5})}, 5},
		{[]api.Node{owning(nil, run(4, 5, 19)), owning(nil, run(4, 5, 19)), owning(nil, run(4, 5, 19))}, 5},
	} {
		owners(t, "twice", small, c.nodes, []int{c.page}, api.ErrTwice)
		slices.Reverse(c.nodes)
		owners(t, "twice, the other way", small, c.nodes, []int{c.page}, api.ErrTwice)
	}
}

// TestP11_2Drawn: nodes that are drawn, with pages here and there that are named twice or are outside, as the model has it.
func TestP11_2Drawn(t *testing.T) {
	r := chance()
	var seen [100]int
	for range 3000 {
		sh := []api.Shape{small, middling, large}[r.Intn(3)]
		pages := r.Perm(sh.Pages - sh.Data + 1)
		var nodes []api.Node
		for range r.Intn(6) {
			n := owning(nil)
			for range r.Intn(3) {
				n.Log = append(n.Log, sh.Data+pages[len(nodes)*6+len(n.Log)])
				n.Map = append(n.Map, run(r.Intn(9), sh.Data+pages[len(nodes)*6+3+len(n.Map)]%(sh.Pages-sh.Data), 1+r.Intn(2)*r.Intn(3)))
			}
			nodes = append(nodes, n)
			if len(nodes)*6+6 >= len(pages) {
				break
			}
		}
		want, e := modelOwners(sh, nodes)
		seen[e]++
		owners(t, "drawn", sh, nodes, want, e)
	}
	if seen[api.OK] < 50 || seen[api.ErrTwice] < 50 || seen[api.ErrRange] < 50 {
		t.Errorf("seen: OK %d, ErrTwice %d, ErrRange %d", seen[api.OK], seen[api.ErrTwice], seen[api.ErrRange])
	}
}
