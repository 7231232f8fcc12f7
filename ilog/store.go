package ilog

import (
	"slices"

	"furrow/api"
	"furrow/layout"
	"furrow/pmem"
)

const slotUsed = 3 * api.WordSize // bytes of a slot's line that are looked at

// durable stores the words in their order, flushes their lines in the order in which they first come, and fences. The first step that is refused ends it.
func durable(d *pmem.Device, words ...api.Change) api.Errno {
	for _, w := range words {
		if e := d.Store(w.At, w.New); e != api.OK {
			return e
		}
	}
	for _, line := range lines(words) {
		if e := d.Flush(line); e != api.OK {
			return e
		}
	}
	return d.Fence()
}

// lines: the lines of words of which those of a line stand together.
func lines(words []api.Change) []int {
	list := make([]int, len(words))
	for i, w := range words {
		list[i] = w.At - w.At%api.LineSize
	}
	return slices.Compact(list)
}

// rising: words that are to be stored one behind the other, from an address on.
func rising(at int, words []uint64) []api.Change {
	list := make([]api.Change, len(words))
	for i, w := range words {
		list[i] = api.Change{At: at + i*api.WordSize, New: w}
	}
	return list
}

// tableWords: the three words of an inode's slot.
type tableWords struct {
	meta, head, tail api.Change
}

func slotWords(ino int, slot api.Slot) tableWords {
	three, _ := layout.PackSlot(ino, slot)
	list := rising(layout.SlotAt(ino), three[:])
	return tableWords{meta: list[0], head: list[1], tail: list[2]}
}

func metaChanges(from, to api.Slot) bool {
	return from.Kind != to.Kind || from.Links != to.Links
}

// headChanges: of an empty log the head's word isn't looked at, so it may be anything. A free slot has Tail 0 too.
func headChanges(from, to api.Slot) bool {
	return to.Tail > 0 && (from.Tail == 0 || from.Head != to.Head)
}

// tailChanges: of a free slot the tail's word isn't looked at, so it may be anything.
func tailChanges(from, to api.Slot) bool {
	return to.Kind != api.KindFree && (from.Kind == api.KindFree || from.Tail != to.Tail)
}

// goesOn: whether of two good slots to's log may be from's with entries behind it, and nothing else of them differs. Neither is free then: a free slot has Tail 0.
func goesOn(from, to api.Slot) bool {
	return !metaChanges(from, to) && to.Tail > 0 && (from.Tail == 0 || from.Head == to.Head)
}
