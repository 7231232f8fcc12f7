package volume

import (
	"slices"
	"strings"

	"furrow/api"
	"furrow/extents"
	"furrow/pmem"
)

// core: a device and its state in memory. The lists in its nodes are never changed in place, so that nodes may share them.
type core struct {
	device *pmem.Device
	shape  api.Shape
	nodes  []api.Node    // by number; of a free inode, and of the number 0, the empty node
	pool   *extents.Pool // the free pages
}

func coreOf(d *pmem.Device, st api.State) (core, api.Errno) {
	pool, e := extents.NewPool(st.Shape, st.Free)
	if e != api.OK {
		return core{}, e
	}
	c := core{device: d, shape: st.Shape, nodes: make([]api.Node, st.Shape.Inodes+1), pool: pool}
	for _, n := range st.Nodes {
		c.nodes[n.Ino] = n
	}
	return c, api.OK
}

// node: the node of a number, and whether there is one.
func (c *core) node(ino int) (api.Node, bool) {
	if ino < 1 || ino >= len(c.nodes) {
		return api.Node{}, false
	}
	n := c.nodes[ino]
	return n, n.Kind != api.KindFree
}

// state: nothing of it is shared with what is kept.
func (c *core) state() api.State {
	st := api.State{Shape: c.shape, Free: c.pool.Spans()}
	for _, n := range used(c.nodes) {
		st.Nodes = append(st.Nodes, copied(n))
	}
	return st
}

// used: those of the nodes that aren't free.
func used(nodes []api.Node) []api.Node {
	var list []api.Node
	for _, n := range nodes {
		if n.Kind != api.KindFree {
			list = append(list, n)
		}
	}
	return list
}

// named: the inode that a name in a directory stands for; 0, if there is none.
func (c *core) named(dir int, name string) int {
	n, _ := c.node(dir)
	i, found := slices.BinarySearchFunc(n.Names, name, func(d api.Dent, name string) int { return strings.Compare(d.Name, name) })
	if !found {
		return 0
	}
	return n.Names[i].Ino
}

// bytesOf: a file's page, as the device has it.
func (c *core) bytesOf(n api.Node, off int) ([]byte, api.Errno) {
	for _, r := range n.Map {
		if r.Off <= off && off < r.Off+r.Count {
			return c.device.Read(api.PageSize*(r.Page+off-r.Off), api.PageSize)
		}
	}
	return make([]byte, api.PageSize), api.OK
}

// copied: a node that shares no memory with the one that is kept.
func copied(n api.Node) api.Node {
	n.Map = append([]api.Run(nil), n.Map...)
	n.Log = append([]int(nil), n.Log...)
	n.Names = append([]api.Dent(nil), n.Names...)
	for i, d := range n.Names {
		n.Names[i].Name = strings.Clone(d.Name)
	}
	return n
}
