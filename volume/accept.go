package volume

import (
	"slices"

	"furrow/api"
	"furrow/replay"
)

// accept: the edits as parts, with their own entries; false, if they can't be done.
func (c *core) accept(edits []api.Edit) ([]part, bool) {
	if !inodesFit(c.shape, edits) {
		return nil, false
	}
	nodes := append([]api.Node(nil), c.nodes...)
	var parts []part
	words := 0
	for _, e := range edits {
		p, ok := c.acceptOne(e)
		if !ok {
			return nil, false
		}
		nodes[e.Ino] = p.now
		words += p.words()
		parts = append(parts, p)
	}
	if words > api.MaxUndo {
		return nil, false
	}
	e, _ := replay.Judge(c.shape, used(nodes))
	return parts, e == api.OK
}

// inodesFit: each edit has an inode of its own.
func inodesFit(s api.Shape, edits []api.Edit) bool {
	if len(edits) == 0 || len(edits) > api.MaxEdits {
		return false
	}
	for i, e := range edits {
		same := func(o api.Edit) bool { return o.Ino == e.Ino }
		if e.Ino < 1 || e.Ino > s.Inodes || slices.ContainsFunc(edits[:i], same) {
			return false
		}
	}
	return true
}

// acceptOne: an edit of one of the shape's inodes, asked for what it says alone.
func (c *core) acceptOne(e api.Edit) (part, bool) {
	p := begun(e, c.nodes[e.Ino])
	good := kindFits(e, p.was) && linksFit(e, p.now.Kind) && fillsFit(e, p.now.Kind) && entriesFit(c.shape, e.Entries) && p.grow(e.Entries)
	return p, good
}

// kindFits: an inode is made where it is free, and changed where it is in use.
func kindFits(e api.Edit, was api.Node) bool {
	switch e.Kind {
	case api.KindFree:
		return was.Kind != api.KindFree
	case api.KindFile, api.KindDir:
		return was.Kind == api.KindFree
	}
	return false
}

// linksFit: kind is the inode's behind the edit.
func linksFit(e api.Edit, kind int) bool {
	switch {
	case e.Links == 0:
		return e.Kind == api.KindFree
	case e.Links == freed:
		return e.Kind == api.KindFree && e.Ino != api.Root && len(e.Entries)+len(e.Fills) == 0
	case kind == api.KindDir:
		return e.Links == 1
	}
	return e.Links >= 1 && e.Links <= api.MaxLinks
}

// entriesFit: a Write would name pages that nobody took; those of the Fills come later.
func entriesFit(s api.Shape, entries []api.Entry) bool {
	for _, e := range entries {
		if e.Kind == api.EntWrite || e.Kind == api.EntAdd && e.Ino > s.Inodes {
			return false
		}
	}
	return true
}

// fillsFit: kind is the inode's behind the edit.
func fillsFit(e api.Edit, kind int) bool {
	if len(e.Fills) == 0 {
		return true
	}
	last := -1
	for _, f := range e.Fills {
		if f.Off <= last || f.Off >= api.MaxFilePages || len(f.Data) != api.PageSize {
			return false
		}
		last = f.Off
	}
	return kind == api.KindFile && e.Size > api.PageSize*last && e.Size <= api.MaxSize
}
