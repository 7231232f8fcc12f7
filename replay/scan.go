package replay

import (
	"furrow/api"
	"furrow/ilog"
	"furrow/inode"
	"furrow/layout"
)

// scanned: what one inode's slot and log mean, or their first breach, at the inode's number.
func scanned(image []byte, s api.Shape, ino int) (api.Node, error) {
	if !isShape(s) || len(image) != s.Pages*api.PageSize || ino < 1 || ino > s.Inodes {
		return api.Node{}, breach(api.ErrInode, ino)
	}
	slot, e := layout.OpenSlot(ino, slotWords(image, ino))
	if e != api.OK {
		return api.Node{}, breach(e, ino)
	}
	if slot.Kind == api.KindFree {
		return api.Node{Ino: ino}, nil
	}
	entries, pages, e := ilog.Walk(image, s, ino, slot)
	if e != api.OK {
		return api.Node{}, breach(e, ino)
	}
	n, e := inode.Replay(slot.Kind, entries)
	if e != api.OK {
		return api.Node{}, breach(e, ino)
	}
	n.Ino, n.Links, n.Head, n.Tail, n.Log = ino, slot.Links, slot.Head, slot.Tail, pages
	return n, nil
}

// isShape: whether layout.Fit gives this shape for some Super.
func isShape(s api.Shape) bool {
	right, e := layout.Fit(api.Super{Pages: s.Pages, Inodes: s.Inodes, Cores: s.Cores})
	return e == api.OK && s == right
}

// slotWords: the words of a slot that are looked at.
func slotWords(image []byte, ino int) [3]uint64 {
	var words [3]uint64
	at := layout.SlotAt(ino)
	for i := range words {
		words[i] = wordAt(image, at+i*api.WordSize)
	}
	return words
}

// wordAt: the word at an address of the image, its least byte first.
func wordAt(image []byte, at int) uint64 {
	var w uint64
	for i, b := range image[at : at+api.WordSize] {
		w |= uint64(b) << (8 * i)
	}
	return w
}
