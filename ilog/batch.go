package ilog

import (
	"furrow/api"
	"furrow/codec"
	"furrow/layout"
)

// batch: entries that are to stand behind a log's tail, and the new pages for them.
type batch struct {
	shape   api.Shape
	ino     int
	slot    api.Slot
	count   int // entries that the log has
	entries []api.Entry
	pages   []int
}

// refusal: why the batch can't be written on a device of so many bytes; OK, if it can.
func (b batch) refusal(size int) api.Errno {
	switch {
	case !fits(b.shape, size):
		return api.ErrShape
	case !slotStands(b.shape, b.ino, b.slot) || !b.goodCount():
		return api.ErrSlot
	case !b.goodPages():
		return api.ErrPages
	case !b.goodEntries():
		return api.ErrEntry
	}
	return api.OK
}

func (b batch) goodCount() bool {
	empty := b.slot.Tail == 0
	return 0 <= b.count && b.count <= api.PerPage*b.shape.Pages && empty == (b.count == 0)
}

func (b batch) goodPages() bool {
	if len(b.pages) != Need(b.slot.Tail, len(b.entries)) {
		return false
	}
	var taken pageSet
	if b.slot.Tail != 0 {
		taken[b.slot.Head] = true
		taken[lastPage(b.slot.Tail)] = true
	}
	for _, page := range b.pages {
		if !dataPage(b.shape, page) || taken[page] {
			return false
		}
		taken[page] = true
	}
	return true
}

func (b batch) goodEntries() bool {
	for _, e := range b.entries {
		e.Seq = 1 // what it has isn't looked at, and what it gets is good
		if _, no := layout.PackEntry(e); no != api.OK || !within(b.shape, e) {
			return false
		}
	}
	return true
}

// words: all that is to be stored, in the order of the stores. The words of a line stand together.
func (b batch) words() []api.Change {
	words := b.headers()
	if len(b.pages) > 0 && b.slot.Tail != 0 {
		at := lastPage(b.slot.Tail) * api.PageSize
		words = append(words, api.Change{At: at, New: codec.Seal(at, uint32(b.pages[0]))})
	}
	places := b.places()
	for i, e := range b.entries {
		e.Seq = uint64(b.count + i + 1)
		line, _ := layout.PackEntry(e)
		list, _ := codec.Words(line[:])
		words = append(words, rising(places[i], list)...)
	}
	return words
}

// headers: the words of the new pages' headers, which hang each page on the one ahead of it.
func (b batch) headers() []api.Change {
	var words []api.Change
	for i, page := range b.pages {
		h := api.Header{Owner: b.ino}
		if i+1 < len(b.pages) {
			h.Next = b.pages[i+1]
		}
		pair, _ := layout.PackHeader(page, h)
		words = append(words, rising(page*api.PageSize, pair[:])...)
	}
	return words
}

// places: the addresses at which entries may stand: the last page's behind the tail, then the new pages'.
func (b batch) places() []int {
	var list []int
	for i := range freePlaces(b.slot.Tail) {
		list = append(list, b.slot.Tail+i*api.LineSize)
	}
	for _, page := range b.pages {
		for i := range api.PerPage {
			list = append(list, firstPlace(page)+i*api.LineSize)
		}
	}
	return list
}

// behind: the slot as it is once the batch, which isn't empty, is committed.
func (b batch) behind() api.Slot {
	slot := b.slot
	if slot.Tail == 0 {
		slot.Head = b.pages[0]
	}
	slot.Tail = b.places()[len(b.entries)-1] + api.LineSize
	return slot
}
