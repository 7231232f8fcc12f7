package mend

import (
	"strconv"

	"furrow/api"
)

const plus = "+"

// placeLost puts what no path reached into a directory of its own; if there is no name left for that, it is let go.
func (r *rescue) placeLost() {
	left := r.placeless()
	if len(left) == 0 {
		return
	}
	name := r.freeName()
	if name == "" {
		for _, n := range left {
			r.lose(api.Loss{Reason: api.ErrLost, Place: n.Ino})
		}
		return
	}
	r.places = append(r.places, place{path: name, node: api.Node{Kind: api.KindDir}})
	for ; len(left) > 0; left = r.placeless() {
		r.placeIn(name, next(left))
	}
}

// placeIn gives a node its place in the directory of what was lost, and goes down from it.
func (r *rescue) placeIn(name string, n api.Node) {
	at := place{path: below(name, strconv.Itoa(n.Ino)), node: n}
	r.counts[n.Ino]++
	r.lose(api.Loss{Reason: api.ErrLost, Place: n.Ino})
	r.places = append(r.places, at)
	for p := range r.down(at.path, n) {
		r.places = append(r.places, p)
	}
}

// placeless: the kept nodes that have no place yet, rising by number.
func (r *rescue) placeless() []api.Node {
	var list []api.Node
	for _, n := range r.nodes {
		if r.counts[n.Ino] == 0 {
			list = append(list, n)
		}
	}
	return list
}

// freeName: the first name for the directory of what was lost that is no place at the top; none, if all of them are.
func (r *rescue) freeName() string {
	for name := api.Lost; len(name) <= api.MaxName; name += plus {
		if r.taken[name] == 0 {
			return name
		}
	}
	return ""
}

// next: which of the nodes without a place, rising, is placed next: the least that none of the others has a name for, as those come to theirs on the way down; where each has one (they go round), the least.
func next(left []api.Node) api.Node {
	named := map[int]int{}
	for _, n := range left {
		for _, d := range n.Names {
			if d.Ino != n.Ino {
				named[d.Ino]++
			}
		}
	}
	for _, n := range left {
		if named[n.Ino] == 0 {
			return n
		}
	}
	return left[0]
}
