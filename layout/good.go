package layout

import (
	"slices"

	"furrow/api"
)

const (
	tablePage    = api.TableAt / api.PageSize               // the inode table's first page
	slotsPerPage = api.PageSize / api.LineSize              // slots of a page of the table
	firstData    = tablePage + api.MinInodes/slotsPerPage   // the data area's first page behind the smallest table
	tableEnd     = api.TableAt + api.MaxInodes*api.LineSize // where the largest table ends
	slotUsed     = 3 * api.WordSize                         // bytes of a slot's line that are looked at
)

// dataFrom: the data area's first page.
func dataFrom(s api.Super) int { return tablePage + s.Inodes/slotsPerPage }

func goodSuper(s api.Super) bool {
	return within(s.Pages, api.MinPages, api.MaxPages) &&
		within(s.Inodes, api.MinInodes, api.MaxInodes) && s.Inodes%slotsPerPage == 0 &&
		within(s.Cores, 1, api.MaxCores) &&
		s.Pages-dataFrom(s) >= api.MinData
}

func within(n, least, most int) bool { return least <= n && n <= most }

func dataPage(page int) bool { return within(page, firstData, api.MaxPages-1) }

// dataPages: whether count pages, one or more, all are data pages. It subtracts where it could add: a sum of great numbers would wrap round.
func dataPages(from, count int) bool {
	return dataPage(from) && within(count, 1, api.MaxPages-from)
}

func goodInode(ino int) bool { return within(ino, 1, api.MaxInodes) }

func goodSlot(s api.Slot) bool {
	if s.Kind == api.KindFree {
		return s == api.Slot{}
	}
	empty := s.Head == 0 && s.Tail == 0
	return goodLinks(s.Kind, s.Links) && (empty || dataPage(s.Head) && goodTail(s.Tail))
}

// goodLinks: whether an inode in use may have this kind and so many links.
func goodLinks(kind, links int) bool {
	switch kind {
	case api.KindFile:
		return within(links, 1, api.MaxLinks)
	case api.KindDir:
		return links == 1
	}
	return false
}

func goodTail(tail int) bool {
	if tail < api.PageSize || tail%api.LineSize != 0 {
		return false
	}
	last := tail - 1 // the entry's last byte: the tail itself may be the next page's
	return dataPage(last/api.PageSize) && last%api.PageSize >= api.LineSize
}

func goodHeader(h api.Header) bool {
	return goodInode(h.Owner) && (h.Next == 0 || dataPage(h.Next))
}

func goodEntry(e api.Entry) bool {
	return e.Seq >= 1 && e.Seq <= api.MaxSeq && e == ofItsKind(e) && goodFields(e)
}

// ofItsKind: the entry with the fields of its kind alone.
func ofItsKind(e api.Entry) api.Entry {
	own := api.Entry{Kind: e.Kind, Seq: e.Seq}
	switch e.Kind {
	case api.EntWrite:
		own.Off, own.Count, own.Page, own.Size = e.Off, e.Count, e.Page, e.Size
	case api.EntSize:
		own.Size = e.Size
	case api.EntAdd:
		own.Ino, own.Name = e.Ino, e.Name
	case api.EntDrop:
		own.Name = e.Name
	}
	return own
}

// goodFields: whether the fields of the entry's kind may be so.
func goodFields(e api.Entry) bool {
	switch e.Kind {
	case api.EntWrite:
		return within(e.Count, 1, api.MaxRun) && within(e.Off, 0, api.MaxFilePages-e.Count) &&
			dataPages(e.Page, e.Count) && goodSize(e.Size)
	case api.EntSize:
		return goodSize(e.Size)
	case api.EntAdd:
		return ValidName(e.Name) && goodInode(e.Ino) && e.Ino != api.Root
	case api.EntDrop:
		return ValidName(e.Name)
	}
	return false
}

func goodSize(size int) bool { return within(size, 0, api.MaxSize) }

func goodUndos(list []api.Undo) bool {
	if !within(len(list), 1, api.MaxUndo) {
		return false
	}
	for i, u := range list {
		again := slices.ContainsFunc(list[:i], func(before api.Undo) bool { return before.At == u.At })
		if again || !slotWord(u.At) {
			return false
		}
	}
	return true
}

// slotWord: whether one of the three words of a slot stands at the address.
func slotWord(at int) bool {
	return within(at, api.TableAt, tableEnd-1) && at%api.LineSize < slotUsed && at%api.WordSize == 0
}

func goodSaved(r api.Saved) bool {
	if r.Stamp == 0 || len(r.Spans) > api.MaxSpans {
		return false
	}
	end := 0
	for _, s := range r.Spans {
		if s.From <= end || !dataPages(s.From, s.Count) {
			return false
		}
		end = s.From + s.Count
	}
	return true
}
