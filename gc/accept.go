package gc

import (
	"furrow/api"
	"furrow/ilog"
	"furrow/inode"
	"furrow/layout"
	"furrow/pmem"
)

// accepted: the entries that the new log is to have, or why there is to be none. No step is done.
func accepted(d *pmem.Device, s api.Shape, n api.Node, pages []int) ([]api.Entry, api.Errno) {
	if e := oldStands(d, s, n); e != api.OK {
		return nil, e
	}
	entries, e := inode.Canon(n)
	switch {
	case e != api.OK:
		return nil, e
	case len(pages) != len(sheets(entries)) || !newPages(s, n, pages):
		return nil, api.ErrPages
	case !allStand(s, entries):
		return nil, api.ErrEntry
	case !journalEmpty(d):
		return nil, api.ErrUndo
	}
	return entries, api.OK
}

// oldStands: why the node has no log that could be collected: the shape doesn't fit the device, its slot doesn't stand in the shape, or the log is empty. ilog knows it: just then it refuses to append nothing, which is no step, to a log that is said to have one entry.
func oldStands(d *pmem.Device, s api.Shape, n api.Node) api.Errno {
	_, e := ilog.Append(d, s, n.Ino, slotOf(n), 1, nil, nil)
	return e
}

// newPages: whether the pages are unlike ones of the data area, and none is known to be the old log's. The node's slot stands in the shape.
func newPages(s api.Shape, n api.Node, pages []int) bool {
	var taken [api.MaxPages]bool
	for _, page := range n.Log {
		if dataPage(s, page) {
			taken[page] = true
		}
	}
	taken[n.Head] = true
	taken[(n.Tail-1)/api.PageSize] = true
	for _, page := range pages {
		if !dataPage(s, page) || taken[page] {
			return false
		}
		taken[page] = true
	}
	return true
}

// allStand: whether the canonical entries of a good node, which are good ones, all stand in the shape.
func allStand(s api.Shape, entries []api.Entry) bool {
	for _, e := range entries {
		switch e.Kind {
		case api.EntWrite:
			if !dataPage(s, e.Page) || !dataPage(s, e.Page+e.Count-1) {
				return false
			}
		case api.EntAdd:
			if e.Ino > s.Inodes {
				return false
			}
		}
	}
	return true
}

// journalEmpty: journal.Commit asks it too, but too late: the new pages have been written by then.
func journalEmpty(d *pmem.Device) bool {
	page, _ := d.Read(api.JournalAt, api.PageSize)
	list, e := layout.OpenUndo(page)
	return e == api.OK && len(list) == 0
}

func dataPage(s api.Shape, page int) bool { return s.Data <= page && page < s.Pages }
