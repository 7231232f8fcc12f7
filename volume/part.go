package volume

import (
	"furrow/api"
	"furrow/inode"
)

// freed: the Links of an edit that frees its inode.
const freed = -1

// part: an edit on its way: the inode ahead of it and behind it (the empty node, where it is free), and what its log gets.
type part struct {
	edit     api.Edit
	was, now api.Node
	entries  []api.Entry // the edit's own, then those of its Fills
	pages    []int       // the log's new pages
}

// begun: a part with the kind and the links that its edit says.
func begun(e api.Edit, was api.Node) part {
	p := part{edit: e, was: was, now: was}
	if e.Kind != api.KindFree {
		p.now = api.Node{Ino: e.Ino, Kind: e.Kind}
	}
	switch e.Links {
	case 0:
	case freed:
		p.now = api.Node{}
	default:
		p.now.Links = e.Links
	}
	return p
}

// grow: the entries go behind those that the log has; false, if they mean nothing there. The node's canonical entries stand for all that its log said, so that the new ones are gone through at once.
func (p *part) grow(entries []api.Entry) bool {
	if len(entries) == 0 {
		return true
	}
	said, e := inode.Canon(p.now)
	if e != api.OK {
		return false
	}
	n, e := inode.Replay(p.now.Kind, append(said, entries...))
	if e != api.OK {
		return false
	}
	p.now.Size, p.now.Map, p.now.Names = n.Size, n.Map, n.Names
	p.now.Entries += len(entries)
	p.entries = append(p.entries, entries...)
	return true
}

// words: how many words of the table the edit changes. Its log's tail moves if it gets an entry, and its head is looked at from then on.
func (p *part) words() int {
	grows := len(p.edit.Entries)+len(p.edit.Fills) > 0
	n := 0
	switch {
	case p.edit.Links == freed:
		return 1
	case p.edit.Kind != api.KindFree:
		n = 2 // kind and tail: what a free slot's line has there isn't looked at
	default:
		if p.now.Links != p.was.Links {
			n++
		}
		if grows {
			n++
		}
	}
	if grows && p.was.Tail == 0 {
		n++
	}
	return n
}

func slotOf(n api.Node) api.Slot {
	return api.Slot{Kind: n.Kind, Links: n.Links, Head: n.Head, Tail: n.Tail}
}
