package inode

import (
	"furrow/api"
	"furrow/names"
	"furrow/radix"
)

// here: an index of names wants a directory's number; the names of the one directory at hand all stand under this one.
const here = api.Root

// meaning: what a log's entries have said so far, in a form in which one entry more costs little, however many there were.
type meaning struct {
	kind  int
	size  int
	pages *radix.Tree[int] // a file's
	names *names.Index     // a directory's
}

// meaningOf: what a good node says; false of one that isn't good.
func meaningOf(n api.Node) (*meaning, bool) {
	if !goodNode(n) {
		return nil, false
	}
	pages, _ := radix.Load(n.Map) // a good node's runs are such as Load takes
	m := &meaning{kind: n.Kind, size: n.Size, pages: pages, names: names.New()}
	for _, d := range n.Names {
		m.names.Put(here, d.Name, d.Ino)
	}
	return m, true
}

// node: n with what is meant now in place of what it said.
func (m *meaning) node(n api.Node) api.Node {
	n.Size = m.size
	n.Map = radix.Runs(m.pages)
	n.Names = m.names.List(here)
	n.Log = append([]int(nil), n.Log...)
	return n
}

// setSize: what stands from the end page on is cut, so that a file that grows again has holes there.
func (m *meaning) setSize(size int) {
	m.size = size
	m.pages.Cut(endPage(size))
}
