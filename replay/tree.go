package replay

import "furrow/api"

// tree: nodes that rise by number, and where in the list each number stands. The root, a directory, is the first.
type tree struct {
	nodes []api.Node
	at    map[int]int
}

// judged: why the nodes make no tree, or nil.
func judged(s api.Shape, nodes []api.Node) error {
	switch {
	case !rising(s, nodes):
		return breach(api.ErrInode, 0)
	case len(nodes) == 0 || nodes[0].Ino != api.Root || nodes[0].Kind != api.KindDir:
		return breach(api.ErrRoot, api.Root)
	}
	t := tree{nodes: nodes, at: places(nodes)}
	if err := t.hanging(); err != nil { // first: the other two go to what the names stand for
		return err
	}
	if err := t.miscounted(); err != nil {
		return err
	}
	return t.lost()
}

// rising: whether the nodes rise strictly by numbers of the shape, and none is free.
func rising(s api.Shape, nodes []api.Node) bool {
	last := 0
	for _, n := range nodes {
		switch {
		case n.Ino <= last || n.Ino > s.Inodes:
			return false
		case n.Kind != api.KindFile && n.Kind != api.KindDir:
			return false
		}
		last = n.Ino
	}
	return true
}

func places(nodes []api.Node) map[int]int {
	at := make(map[int]int, len(nodes))
	for i, n := range nodes {
		at[n.Ino] = i
	}
	return at
}

// namesOf: what a directory has names for; what stands as names in a file isn't looked at.
func namesOf(n api.Node) []api.Dent {
	if n.Kind != api.KindDir {
		return nil
	}
	return n.Names
}

// hanging: the breach at the least directory with a name for a number that no node has.
func (t tree) hanging() error {
	var err error
search:
	for _, n := range t.nodes {
		for _, d := range namesOf(n) {
			if _, there := t.at[d.Ino]; !there {
				err = breach(api.ErrHang, n.Ino)
				break search
			}
		}
	}
	return err
}

// miscounted: the breach at the least inode that hasn't as many names as are wanted. No name hangs.
func (t tree) miscounted() error {
	counts := make([]int, len(t.nodes))
	for _, n := range t.nodes {
		for _, d := range namesOf(n) {
			counts[t.at[d.Ino]]++
		}
	}
	for i, n := range t.nodes {
		if counts[i] != namesWanted(n) {
			return breach(api.ErrCount, n.Ino)
		}
	}
	return nil
}

// namesWanted: how many names an inode is to have; -1, which no inode has, of a file whose links are too few.
func namesWanted(n api.Node) int {
	switch {
	case n.Ino == api.Root:
		return 0
	case n.Kind == api.KindDir:
		return 1
	case n.Links < 1:
		return -1
	}
	return n.Links
}

// lost: the breach at the least inode that isn't reached from the root. No name hangs.
func (t tree) lost() error {
	reached := make([]bool, len(t.nodes))
	reached[0] = true
	for todo := []int{0}; len(todo) > 0; {
		n := t.nodes[todo[0]]
		todo = todo[1:]
		for _, d := range namesOf(n) {
			if i := t.at[d.Ino]; !reached[i] {
				reached[i] = true
				todo = append(todo, i)
			}
		}
	}
	for i, n := range t.nodes {
		if !reached[i] {
			return breach(api.ErrLost, n.Ino)
		}
	}
	return nil
}
