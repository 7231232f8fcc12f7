package radix

import "furrow/api"

// fan: the children of a node.
const fan = 8

// slot: one place in a node, which stands for as many offsets as the node's level gives it (its reach): an eighth of the node's, and one at the lowest level. It has a node below it, or at the lowest level a value, or neither where all its offsets are holes.
type slot[V comparable] struct {
	node *node[V]
	v    V
}

// node: a node that hangs in a tree is never changed: a change makes the nodes on the way to it anew. So whoever goes through the old ones isn't disturbed. None is without a value below it, so that nothing is kept of what has gone.
type node[V comparable] [fan]slot[V]

func isOffset(off int) bool { return off >= 0 && off < api.MaxFilePages }

// reach: how many offsets the root stands for; by it the tree has as many levels as its offsets want.
func reach() int {
	n := 1
	for n < api.MaxFilePages {
		n *= fan
	}
	return n
}

// at: the value of the slot's offset off, counted from its first.
func (s slot[V]) at(reach, off int) V {
	if s.node == nil {
		return s.v
	}
	step := reach / fan
	return s.node[off/step].at(step, off%step)
}

// with: the slot with v at its offset off, counted from its first.
func (s slot[V]) with(reach, off int, v V) slot[V] {
	if reach == 1 {
		return slot[V]{v: v}
	}
	var n node[V]
	if s.node != nil {
		n = *s.node
	}
	step := reach / fan
	n[off/step] = n[off/step].with(step, off%step, v)
	return over(n)
}

// below: the slot, whose offsets begin at first, with those below off alone.
func (s slot[V]) below(first, reach, off int) slot[V] {
	if first >= off {
		return slot[V]{}
	}
	if s.node == nil || first+reach <= off {
		return s
	}
	n := *s.node
	step := reach / fan
	for i := range fan {
		n[i] = n[i].below(first+i*step, step, off)
	}
	return over(n)
}

// each: hands on the slot's offsets from off on that have values; its offsets begin at first. False: yield has had enough.
func (s slot[V]) each(first, reach, off int, yield func(int, V) bool) bool {
	if first+reach <= off || s == (slot[V]{}) {
		return true
	}
	if s.node == nil {
		return yield(first, s.v)
	}
	step := reach / fan
	for i := range fan {
		if !s.node[i].each(first+i*step, step, off, yield) {
			return false
		}
	}
	return true
}

// over: a slot with that node below it; with none, if it has no value.
func over[V comparable](n node[V]) slot[V] {
	if n == (node[V]{}) {
		return slot[V]{}
	}
	return slot[V]{node: &n}
}
