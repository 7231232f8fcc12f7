package volume

import (
	"cmp"
	"slices"

	"furrow/api"
	"furrow/ilog"
	"furrow/journal"
)

// write: all that a transaction writes where nothing looks yet: pages of files, and entries behind the tails of logs.
func (c *core) write(t *transaction) api.Errno {
	for i := range t.parts {
		p := &t.parts[i]
		if e := c.fill(t, p.edit); e != api.OK {
			return e
		}
		if len(p.entries) == 0 {
			continue
		}
		slot, e := ilog.Append(c.device, c.shape, p.edit.Ino, slotOf(p.now), p.was.Entries, p.entries, p.pages)
		if e != api.OK {
			return e
		}
		p.now.Head, p.now.Tail = slot.Head, slot.Tail
	}
	return api.OK
}

// fill: no fence of its own: the entries that name the pages come with one.
func (c *core) fill(t *transaction, edit api.Edit) api.Errno {
	for _, f := range edit.Fills {
		at := api.PageSize * t.taken[place{edit.Ino, f.Off}]
		if e := c.device.Write(at, f.Data); e != api.OK {
			return e
		}
		if e := c.device.FlushAll(at, api.PageSize); e != api.OK {
			return e
		}
	}
	return api.OK
}

// commit: the table's words change as one. Where only one log has grown, its tail does it alone.
func (c *core) commit(parts []part) api.Errno {
	var moved []part
	var words []api.Change
	for _, p := range parts {
		list, e := ilog.Changes(p.edit.Ino, slotOf(p.was), slotOf(p.now))
		if e != api.OK {
			return e
		}
		if len(list) > 0 {
			moved = append(moved, p)
			words = append(words, list...)
		}
	}
	switch {
	case len(moved) == 0:
		return api.OK
	case len(moved) == 1 && onlyGrown(moved[0]):
		p := moved[0]
		return ilog.Commit(c.device, p.edit.Ino, slotOf(p.was), slotOf(p.now))
	}
	slices.SortFunc(words, func(a, b api.Change) int { return cmp.Compare(a.At, b.At) })
	return journal.Commit(c.device, c.shape, words)
}

func onlyGrown(p part) bool { return p.was.Kind == p.now.Kind && p.was.Links == p.now.Links }
