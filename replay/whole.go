package replay

import (
	"furrow/api"
	"furrow/extents"
	"furrow/journal"
	"furrow/layout"
)

// meaning: the state of an image, or its first breach.
func meaning(image []byte) (api.State, error) {
	s, e := layout.FindSuper(image)
	if e != api.OK {
		return api.State{}, breach(e, 0)
	}
	over, e := journal.Overlay(image)
	if e != api.OK {
		return api.State{}, breach(e, api.JournalAt)
	}
	nodes, err := inUse(over, s)
	if err != nil {
		return api.State{}, err
	}
	pages, err := owned(s, nodes)
	if err != nil {
		return api.State{}, err
	}
	if err := judged(s, nodes); err != nil {
		return api.State{}, err
	}
	return api.State{Shape: s, Nodes: nodes, Free: others(s, pages)}, nil
}

// inUse: the nodes that aren't free, rising by number.
func inUse(image []byte, s api.Shape) ([]api.Node, error) {
	var nodes []api.Node
	for ino := 1; ino <= s.Inodes; ino++ {
		n, err := scanned(image, s, ino)
		if err != nil {
			return nil, err
		}
		if n.Kind != api.KindFree {
			nodes = append(nodes, n)
		}
	}
	return nodes, nil
}

// others: the pages of the data area that aren't among these.
func others(s api.Shape, pages []int) []api.Span {
	marks := extents.NewBitmap(s.Pages)
	for _, page := range pages {
		marks.Set(page)
	}
	return marks.Holes(s.Data, s.Pages)
}
