package inode

import (
	"strings"

	"furrow/api"
)

// shortest: the steps that lead from nothing to a good node, in the canonical order.
func shortest(n api.Node) []step {
	var l []step
	for _, r := range n.Map {
		l = append(l, writes(r, n.Size)...)
	}
	for _, d := range n.Names {
		l = append(l, add{d})
	}
	if len(l) == 0 && n.Size > 0 { // each write says the size too: it wants a step of its own only where there is none
		l = append(l, resize{n.Size})
	}
	return l
}

// writes: a run in as many pages a step as an entry takes.
func writes(r api.Run, size int) []step {
	var l []step
	for done := 0; done < r.Count; done += api.MaxRun {
		piece := api.Run{Off: r.Off + done, Page: r.Page + done, Count: min(r.Count-done, api.MaxRun)}
		l = append(l, write{piece, size})
	}
	return l
}

// entryOf: the entry that does a step of the canonical list, in which no name is dropped.
func entryOf(s step, seq int) api.Entry {
	e := api.Entry{Seq: uint64(seq)}
	switch s := s.(type) {
	case write:
		e.Kind, e.Size = api.EntWrite, s.size
		e.Off, e.Page, e.Count = s.run.Off, s.run.Page, s.run.Count
	case resize:
		e.Kind, e.Size = api.EntSize, s.size
	case add:
		e.Kind, e.Ino = api.EntAdd, s.dent.Ino
		e.Name = strings.Clone(s.dent.Name) // of its own, as all of an answer is
	}
	return e
}
