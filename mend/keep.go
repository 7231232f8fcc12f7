package mend

import "furrow/api"

// rescue: the kept nodes of an image, and where they have been put so far.
type rescue struct {
	base   []byte
	nodes  []api.Node       // the kept ones, rising by number
	by     map[int]api.Node // the same by their numbers
	places []place          // in the order in which they were found
	counts map[int]int      // how many places a node has, by its number; the root's one is the top
	taken  map[string]int   // the names that are places at the top
	losses []api.Loss
}

// place: a path, and the node that stands there.
type place struct {
	path string
	node api.Node
}

// keep: the kept nodes of an image, none of them at a place, and the losses that there are by then.
func keep(f findings) *rescue {
	r := &rescue{base: f.base, by: map[int]api.Node{}, counts: map[int]int{}, taken: map[string]int{}}
	for _, b := range f.refused {
		r.lose(api.Loss{Reason: b.Reason, Place: b.Place})
	}
	named := f.namings()
	for _, n := range f.nodes {
		if shares(n, named) {
			r.lose(api.Loss{Reason: api.ErrTwice, Place: n.Ino})
			continue
		}
		r.nodes = append(r.nodes, n)
		r.by[n.Ino] = n
	}
	if !f.hasRoot() { // a directory has no map, so it is kept
		r.lose(api.Loss{Reason: api.ErrRoot, Place: api.Root})
	}
	return r
}

// shares: whether a page that is named more than once is in a node's map: then nobody can say whose bytes it has.
func shares(n api.Node, named []int) bool {
	for _, page := range mapped(n) {
		if named[page] > 1 {
			return true
		}
	}
	return false
}

// lose puts down losses, behind those that were met already.
func (r *rescue) lose(losses ...api.Loss) { r.losses = append(r.losses, losses...) }
