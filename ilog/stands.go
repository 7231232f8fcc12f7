package ilog

import (
	"furrow/api"
	"furrow/layout"
)

// pageSet: which pages are in a set, by their numbers.
type pageSet [api.MaxPages]bool

// fits: whether the shape is that of a device or an image of so many bytes.
func fits(s api.Shape, size int) bool {
	right, e := layout.Fit(api.Super{Pages: s.Pages, Inodes: s.Inodes, Cores: s.Cores})
	return e == api.OK && s == right && size == s.Pages*api.PageSize
}

func inodeOf(s api.Shape, ino int) bool { return 1 <= ino && ino <= s.Inodes }

func dataPage(s api.Shape, page int) bool { return s.Data <= page && page < s.Pages }

// goodSlot: whether the slot is a good one, free or in use, and the number an inode's.
func goodSlot(ino int, slot api.Slot) bool {
	_, e := layout.PackSlot(ino, slot)
	return e == api.OK
}

// goodTail asks for a slot in which nothing but the tail can be wrong.
func goodTail(tail int) bool {
	return goodSlot(api.Root, api.Slot{Kind: api.KindFile, Links: 1, Head: api.MaxPages - 1, Tail: tail})
}

func slotStands(s api.Shape, ino int, slot api.Slot) bool {
	if !inodeOf(s, ino) || !goodSlot(ino, slot) || slot.Kind == api.KindFree {
		return false
	}
	return slot.Tail == 0 || dataPage(s, slot.Head) && dataPage(s, lastPage(slot.Tail))
}

// within: whether a good entry stands in the shape.
func within(s api.Shape, e api.Entry) bool {
	switch e.Kind {
	case api.EntWrite:
		return dataPage(s, e.Page) && dataPage(s, e.Page+e.Count-1)
	case api.EntAdd:
		return inodeOf(s, e.Ino)
	}
	return true
}

// lastPage: the page of the entry that ends at the tail. The tail itself may be the next page's address.
func lastPage(tail int) int { return (tail - 1) / api.PageSize }

// freePlaces: the places of the last page that stand behind the tail; an empty log has no page.
func freePlaces(tail int) int {
	if tail == 0 {
		return 0
	}
	return (pageEnd(lastPage(tail)) - tail) / api.LineSize
}

func firstPlace(page int) int { return page*api.PageSize + api.LineSize }

func pageEnd(page int) int { return (page + 1) * api.PageSize }
