package volume

import (
	"furrow/api"
	"furrow/codec"
	"furrow/layout"
	"furrow/pmem"
)

// format: the words of a new file system, rising by address: those of the two superblock lines, and those of all that they vouch for.
type format struct {
	super, rest []api.Change
}

func formatOf(s api.Super) (format, api.Errno) {
	line, e := layout.PackSuper(s)
	if e != api.OK {
		return format{}, e
	}
	words, e := codec.Words(append(line[:], line[:]...))
	if e != api.OK {
		return format{}, e
	}
	f := format{super: changes(0, words), rest: changes(api.CleanAt, []uint64{0})}
	f.rest = append(f.rest, changes(api.JournalAt, []uint64{0, 0})...)
	for ino := 1; ino <= s.Inodes; ino++ {
		words, e := layout.PackSlot(ino, firstSlot(ino))
		if e != api.OK {
			return format{}, e
		}
		f.rest = append(f.rest, changes(layout.SlotAt(ino), words[:])...)
	}
	return f, api.OK
}

// firstSlot: an inode's slot in a new file system, in which there is a root alone.
func firstSlot(ino int) api.Slot {
	if ino == api.Root {
		return api.Slot{Kind: api.KindDir, Links: 1}
	}
	return api.Slot{}
}

// changes: the words from an address on.
func changes(at int, words []uint64) []api.Change {
	list := make([]api.Change, len(words))
	for i, w := range words {
		list[i] = api.Change{At: at + api.WordSize*i, New: w}
	}
	return list
}

// on: the superblock goes first and comes last, so that a loss of power amid it leaves no half of a file system under a superblock.
func (f format) on(d *pmem.Device) api.Errno {
	gone := changes(0, make([]uint64, len(f.super)))
	for _, words := range [][]api.Change{gone, f.rest, f.super} {
		if e := durable(d, words); e != api.OK {
			return e
		}
	}
	return api.OK
}

// durable: the words, which rise by address, are stored, and nothing that follows is done ahead of their being durable.
func durable(d *pmem.Device, words []api.Change) api.Errno {
	for _, w := range words {
		if e := d.Store(w.At, w.New); e != api.OK {
			return e
		}
	}
	last := -1
	for _, w := range words {
		line := w.At / api.LineSize
		if line == last {
			continue
		}
		last = line
		if e := d.Flush(w.At); e != api.OK {
			return e
		}
	}
	return d.Fence()
}
