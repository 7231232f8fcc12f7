package mount

import (
	"furrow/api"
	"furrow/codec"
	"furrow/layout"
)

// overlay: an image as it is with its journal rolled back, and its shape. All workers read it, and none changes it.
type overlay struct {
	bytes []byte
	shape api.Shape
}

// slot: an inode's slot, free or such as stands in the shape.
func (o overlay) slot(ino int) (api.Slot, api.Errno) {
	at := layout.SlotAt(ino)
	var words [3]uint64
	for i := range words {
		words[i], _ = codec.Word(o.bytes, at+i*api.WordSize)
	}
	slot, e := layout.OpenSlot(ino, words)
	if e != api.OK {
		return api.Slot{}, e
	}
	if slot.Tail != 0 && !(o.dataPage(slot.Head) && o.dataPage(lastPage(slot.Tail))) {
		return api.Slot{}, api.ErrSlot
	}
	return slot, api.OK
}

// held: what the sealed word at an address holds.
func (o overlay) held(at int) (int, api.Errno) {
	w, _ := codec.Word(o.bytes, at)
	v, e := codec.Unseal(at, w)
	return int(v), e
}

// within: whether a good entry stands in the shape.
func (o overlay) within(e api.Entry) bool {
	switch e.Kind {
	case api.EntWrite:
		return o.dataPage(e.Page) && o.dataPage(e.Page+e.Count-1)
	case api.EntAdd:
		return e.Ino <= o.shape.Inodes
	}
	return true
}

func (o overlay) dataPage(page int) bool { return o.shape.Data <= page && page < o.shape.Pages }

// lastPage: the page of the entry that ends at the tail. The tail itself may be the next page's address.
func lastPage(tail int) int { return (tail - 1) / api.PageSize }
