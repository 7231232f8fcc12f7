package volume_test

import (
	"fmt"
	"slices"
	"testing"

	"furrow/api"
	"furrow/extents"
	"furrow/gc"
	"furrow/ilog"
	"furrow/inode"
	"furrow/journal"
	"furrow/pmem"
	"furrow/replay"
)

func sprint(x any) string { return fmt.Sprintf("%+v", x) }

// The twin does what the chapter says of Do, in its words, on a device of its own. It keeps nothing in memory: the state is what Replay says of its device's bytes.

// nodeOf: the node of a number, the empty one if there is none.
func nodeOf(st api.State, ino int) api.Node {
	for _, n := range st.Nodes {
		if n.Ino == ino {
			return n
		}
	}
	return api.Node{}
}

func slotOf(n api.Node) api.Slot {
	return api.Slot{Kind: n.Kind, Links: n.Links, Head: n.Head, Tail: n.Tail}
}

// badEdit: P15.7's list but for the table's words and Judge, of one edit.
func badEdit(st api.State, e api.Edit) bool {
	n := nodeOf(st, e.Ino)
	kind := n.Kind
	if e.Kind != 0 {
		kind = e.Kind
	}
	switch {
	case e.Ino < 1 || e.Ino > st.Shape.Inodes:
	case e.Kind == 0 && n.Kind == 0:
	case e.Kind != 0 && (n.Kind != 0 || e.Kind != api.KindFile && e.Kind != api.KindDir):
	case e.Links < -1 || e.Links > 100:
	case e.Links >= 2 && kind == api.KindDir:
	case e.Links <= 0 && e.Kind != 0:
	case e.Links == -1 && (e.Ino == 1 || len(e.Entries) > 0 || len(e.Fills) > 0):
	case badFills(e, kind):
	default:
		if e.Kind != 0 {
			n = api.Node{Kind: e.Kind}
		}
		for _, x := range e.Entries {
			if x.Kind == api.EntWrite || x.Kind == api.EntAdd && x.Ino > st.Shape.Inodes {
				return true
			}
			var no api.Errno
			if n, no = inode.Apply(n, x); no != api.OK {
				return true
			}
		}
		return false
	}
	return true
}

func badFills(e api.Edit, kind int) bool {
	if len(e.Fills) == 0 {
		return false
	}
	for i, f := range e.Fills {
		if i > 0 && f.Off <= e.Fills[i-1].Off || f.Off < 0 || f.Off > 511 || len(f.Data) != 512 {
			return true
		}
	}
	return kind == api.KindDir || e.Size < 1 || e.Size > 262144 || e.Size <= 512*e.Fills[len(e.Fills)-1].Off
}

// wordsOf: P15.9's number of changed words.
func wordsOf(st api.State, e api.Edit) int {
	n, has := nodeOf(st, e.Ino), len(e.Entries) > 0 || len(e.Fills) > 0
	switch {
	case e.Links == -1:
		return 1
	case e.Kind != 0 && has:
		return 3
	case e.Kind != 0:
		return 2
	}
	words := 0
	if e.Links > 0 && e.Links != n.Links {
		words++
	}
	if has {
		words++
		if n.Tail == 0 {
			words++
		}
	}
	return words
}

// behindEdits: the nodes as they would be, but for pages and logs; of edits that are good one by one.
func behindEdits(st api.State, edits []api.Edit) []api.Node {
	var list []api.Node
	for ino := 1; ino <= st.Shape.Inodes; ino++ {
		n := nodeOf(st, ino)
		for _, e := range edits {
			if e.Ino != ino {
				continue
			}
			if e.Kind != 0 {
				n = api.Node{Ino: ino, Kind: e.Kind}
			}
			if e.Links > 0 {
				n.Links = e.Links
			}
			for _, x := range e.Entries {
				n, _ = inode.Apply(n, x)
			}
			if e.Links == -1 {
				n = api.Node{}
			}
		}
		if n.Kind != 0 {
			list = append(list, n)
		}
	}
	return list
}

func badEdits(st api.State, edits []api.Edit) bool {
	if len(edits) == 0 || len(edits) > 4 {
		return true
	}
	words := 0
	for i, e := range edits {
		if slices.ContainsFunc(edits[:i], func(o api.Edit) bool { return o.Ino == e.Ino }) || badEdit(st, e) {
			return true
		}
		words += wordsOf(st, e)
	}
	no, _ := replay.Judge(st.Shape, behindEdits(st, edits))
	return words > 8 || no != api.OK
}

// plan: what P15.8 gives an edit.
type plan struct {
	fills   []int
	entries []api.Entry
	log     []int
}

func taken(p *extents.Pool, core, n int) ([]int, api.Errno) {
	var list []int
	spans, e := p.Take(core, n)
	for _, s := range spans {
		for i := range s.Count {
			list = append(list, s.From+i)
		}
	}
	return list, e
}

// pieces: the Write entries of Fills at these pages.
func pieces(e api.Edit, pages []int) []api.Entry {
	var list []api.Entry
	for i := 0; i < len(pages); {
		n := 1
		for i+n < len(pages) && n < 16 && e.Fills[i+n].Off == e.Fills[i].Off+n && pages[i+n] == pages[i]+n {
			n++
		}
		list = append(list, api.Entry{Kind: api.EntWrite, Off: e.Fills[i].Off, Count: n, Page: pages[i], Size: e.Size})
		i += n
	}
	return list
}

func planned(st api.State, edits []api.Edit) ([]plan, api.Errno) {
	pool, _ := extents.NewPool(st.Shape, st.Free)
	var list []plan
	for _, e := range edits {
		var p plan
		if e.Links != -1 {
			var no api.Errno
			if p.fills, no = taken(pool, e.Ino%st.Shape.Cores, len(e.Fills)); no != api.OK {
				return nil, api.ErrNoSpace
			}
			p.entries = append(slices.Clone(e.Entries), pieces(e, p.fills)...)
			if p.log, no = taken(pool, e.Ino%st.Shape.Cores, ilog.Need(nodeOf(st, e.Ino).Tail, len(p.entries))); no != api.OK {
				return nil, api.ErrNoSpace
			}
		}
		list = append(list, p)
	}
	return list, api.OK
}

// slotBehind: P15.9's first part for one edit: its pages, and its entries behind its log.
func slotBehind(m *pmem.Device, st api.State, e api.Edit, p plan) (api.Slot, api.Errno) {
	for i, f := range e.Fills {
		if no := m.Write(512*p.fills[i], f.Data); no != api.OK {
			return api.Slot{}, no
		}
		if no := m.FlushAll(512*p.fills[i], 512); no != api.OK {
			return api.Slot{}, no
		}
	}
	n := nodeOf(st, e.Ino)
	slot := slotOf(n)
	if e.Kind != 0 {
		slot = api.Slot{Kind: e.Kind, Links: e.Links}
	}
	if len(p.entries) > 0 {
		var no api.Errno
		if slot, no = ilog.Append(m, st.Shape, e.Ino, slot, n.Entries, p.entries, p.log); no != api.OK {
			return api.Slot{}, no
		}
	}
	switch e.Links {
	case 0:
	case -1:
		slot = api.Slot{}
	default:
		slot.Links = e.Links
	}
	return slot, api.OK
}

// committed: P15.9's second part.
func committed(m *pmem.Device, st api.State, edits []api.Edit, slots []api.Slot) api.Errno {
	var changes []api.Change
	lines := map[int]bool{}
	last := 0
	for i, e := range edits {
		list, _ := ilog.Changes(e.Ino, slotOf(nodeOf(st, e.Ino)), slots[i])
		for _, c := range list {
			lines[c.At/64] = true
			last = i
		}
		changes = append(changes, list...)
	}
	if len(changes) == 0 {
		return api.OK
	}
	from := slotOf(nodeOf(st, edits[last].Ino))
	if to := slots[last]; len(lines) == 1 && from.Kind == to.Kind && from.Links == to.Links {
		return ilog.Commit(m, edits[last].Ino, from, to)
	}
	slices.SortFunc(changes, func(a, b api.Change) int { return a.At - b.At })
	return journal.Commit(m, st.Shape, changes)
}

// collections: P15.11. The free pages are those that the bytes mean.
func collections(t *testing.T, m *pmem.Device, edits []api.Edit) api.Errno {
	t.Helper()
	for _, e := range edits {
		st := replayed(t, m.View())
		n := nodeOf(st, e.Ino)
		if n.Kind == 0 || !gc.Due(n) || countOf(st.Free) < gc.Want(n) {
			continue
		}
		pool, _ := extents.NewPool(st.Shape, st.Free)
		pages, _ := taken(pool, e.Ino%st.Shape.Cores, gc.Want(n))
		if _, no := gc.Collect(m, st.Shape, n, pages); no != api.OK {
			return no
		}
	}
	return api.OK
}

// twin: the whole of Do.
func twin(t *testing.T, m *pmem.Device, edits []api.Edit) api.Errno {
	t.Helper()
	st := replayed(t, m.View())
	if badEdits(st, edits) {
		return api.ErrEdit
	}
	plans, no := planned(st, edits)
	if no != api.OK {
		return no
	}
	var slots []api.Slot
	for i, e := range edits {
		slot, no := slotBehind(m, st, e, plans[i])
		if no != api.OK {
			return no
		}
		slots = append(slots, slot)
	}
	if no := committed(m, st, edits, slots); no != api.OK {
		return no
	}
	return collections(t, m, edits)
}
