package gc

import (
	"strings"

	"furrow/api"
	"furrow/ilog"
	"furrow/journal"
	"furrow/pmem"
)

// sheets: the entries as they fill log pages, a list a page. Each list ends where its room does, so none can grow into the next one's.
func sheets(entries []api.Entry) [][]api.Entry {
	var list [][]api.Entry
	for from := 0; from < len(entries); from += api.PerPage {
		to := min(from+api.PerPage, len(entries))
		list = append(list, entries[from:to:to])
	}
	return list
}

func slotOf(n api.Node) api.Slot {
	return api.Slot{Kind: n.Kind, Links: n.Links, Head: n.Head, Tail: n.Tail}
}

// rewritten writes the entries into the pages as a log of their own, and turns the node's slot to it: the slot as it is then. Till the journal's commit the old log counts, untouched.
func rewritten(d *pmem.Device, s api.Shape, n api.Node, entries []api.Entry, pages []int) (api.Slot, api.Errno) {
	none := api.Slot{Kind: n.Kind, Links: n.Links}
	slot, e := ilog.Append(d, s, n.Ino, none, 0, entries, pages)
	if e != api.OK {
		return api.Slot{}, e
	}
	changes, e := ilog.Changes(n.Ino, slotOf(n), slot)
	if e != api.OK {
		return api.Slot{}, e
	}
	if e := journal.Commit(d, s, changes); e != api.OK {
		return api.Slot{}, e
	}
	return slot, api.OK
}

// collected: the node with a log of so many entries in the pages, and no memory of what was handed in.
func collected(n api.Node, slot api.Slot, entries int, pages []int) api.Node {
	n.Head, n.Tail, n.Entries = slot.Head, slot.Tail, entries
	n.Log = append([]int(nil), pages...)
	n.Map = append([]api.Run(nil), n.Map...)
	names := make([]api.Dent, len(n.Names))
	for i, d := range n.Names {
		names[i] = api.Dent{Name: strings.Clone(d.Name), Ino: d.Ino}
	}
	n.Names = names
	return n
}
