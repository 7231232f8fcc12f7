package replay_test

import (
	"testing"

	"furrow/api"
	"furrow/ilog"
	"furrow/journal"
	"furrow/pmem"
	"furrow/replay"
)

// making: a file 3 is made on example 4's device, with the name c; cut behind so many steps (-1: never).
func making(t *testing.T, steps int) (*pmem.Device, api.Errno) {
	t.Helper()
	d, e := pmem.Load(four(t).b)
	if e != api.OK {
		t.Fatal(e)
	}
	if steps >= 0 {
		d.Arm(steps)
	}
	from := api.Slot{Kind: api.KindDir, Links: 1, Head: 9, Tail: 4800}
	root, e := ilog.Append(d, small, 1, from, 2, []api.Entry{add("c", 3)}, nil)
	if e != api.OK {
		return d, e
	}
	changes, _ := ilog.Changes(1, from, root)
	made, _ := ilog.Changes(3, api.Slot{}, api.Slot{Kind: api.KindFile, Links: 1})
	return d, journal.Commit(d, small, append(changes, made...))
}

// TestP11_4Power: wherever power is lost amid a commit of two inodes, the image means what it meant before, or what it means behind it.
func TestP11_4Power(t *testing.T) {
	r := chance()
	before := fourMeans()
	d, e := making(t, -1)
	if e != api.OK {
		t.Fatal(e)
	}
	behind, reason, _ := modelReplay(t, d.View())
	if reason != api.OK || len(behind.Nodes) != 3 {
		t.Fatal(reason)
	}
	means(t, "through", d.View(), behind)
	all := d.Steps()
	for cut := range all {
		d, e := making(t, cut)
		if e != api.ErrDead {
			t.Fatalf("cut at %d: %v", cut, e)
		}
		seen := [2]int{}
		for range 12 {
			choices := make([]int, len(d.Doubts()))
			for i := range choices {
				choices[i] = r.Intn(4)
			}
			b := d.Crash(choices)
			st, err := replay.Replay(b)
			switch {
			case err == nil && sameState(st, before):
				seen[0]++
			case err == nil && sameState(st, behind):
				seen[1]++
			default:
				t.Fatalf("cut at %d: %+v, %v", cut, st, err)
			}
		}
		if cut <= all-3 && seen[1] > 0 {
			t.Errorf("cut at %d: the new state came ahead of the journal's last store", cut)
		}
	}
}
