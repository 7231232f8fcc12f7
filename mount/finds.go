package mount

import (
	"cmp"
	"slices"
	"strings"

	"furrow/api"
	"furrow/extents"
	"furrow/inode"
	"furrow/replay"
)

// finds: what a worker, or all of them, found: the nodes in use, what is wrong, and which pages the nodes own.
type finds struct {
	nodes    []api.Node
	breaches []api.Breach
	owned    *extents.Bitmap
}

func nothing(s api.Shape) finds { return finds{owned: extents.NewBitmap(s.Pages)} }

func (f *finds) breach(reason api.Errno, place int) {
	f.breaches = append(f.breaches, api.Breach{Reason: reason, Place: place})
}

// node puts a node down, and marks its pages, rising: of those that are marked already only the least of all is told, so behind the first nothing is asked any more.
func (f *finds) node(n api.Node) {
	f.nodes = append(f.nodes, n)
	pages := append(slices.Clone(n.Log), inode.Pages(n)...)
	slices.Sort(pages)
	for _, page := range pages {
		if !f.owned.Set(page) {
			f.breach(api.ErrTwice, page)
			break
		}
	}
}

// merge puts what another found to this. In which order that is done for several isn't seen in the state.
func (f *finds) merge(o finds) {
	f.nodes = append(f.nodes, o.nodes...)
	f.breaches = append(f.breaches, o.breaches...)
	if page := f.owned.Merge(o.owned); page >= 0 {
		f.breach(api.ErrTwice, page)
	}
}

// state: what all finds together mean, in new memory; or the first breach.
func (f finds) state(s api.Shape) (api.State, error) {
	slices.SortFunc(f.breaches, asTold)
	if len(f.breaches) > 0 {
		return api.State{}, corrupt(f.breaches[0])
	}
	slices.SortFunc(f.nodes, func(a, b api.Node) int { return cmp.Compare(a.Ino, b.Ino) })
	if reason, place := replay.Judge(s, f.nodes); reason != api.OK {
		return api.State{}, corrupt(api.Breach{Reason: reason, Place: place})
	}
	return api.State{Shape: s, Nodes: copied(f.nodes), Free: f.owned.Holes(s.Data, s.Pages)}, nil
}

// asTold: the order in which breaches are told: those of inodes, the least first; then those of pages, the least first.
func asTold(a, b api.Breach) int {
	return cmp.Or(cmp.Compare(rank(a), rank(b)), cmp.Compare(a.Place, b.Place))
}

func rank(b api.Breach) int {
	if b.Reason == api.ErrTwice {
		return 1
	}
	return 0
}

// copied: nodes that share no memory with those that the machine keeps for the next answer.
func copied(nodes []api.Node) []api.Node {
	list := make([]api.Node, len(nodes))
	for i, n := range nodes {
		n.Map = append([]api.Run(nil), n.Map...)
		n.Log = append([]int(nil), n.Log...)
		n.Names = append([]api.Dent(nil), n.Names...)
		for k := range n.Names {
			n.Names[k].Name = strings.Clone(n.Names[k].Name)
		}
		list[i] = n
	}
	return list
}

func corrupt(b api.Breach) error { return &api.CorruptError{Reason: b.Reason, Place: b.Place} }
