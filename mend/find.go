package mend

import (
	"iter"

	"furrow/api"
	"furrow/journal"
	"furrow/layout"
	"furrow/replay"
)

// findings: what an image that has a superblock proves, each inode by itself.
type findings struct {
	shape   api.Shape
	base    []byte
	refused []api.Breach     // the journal's, if it is broken; then those of the inodes that Scan refuses, rising
	nodes   []api.Node       // rising by number
	by      map[int]api.Node // the same by their numbers
}

// find: what an image proves. ErrSuper: it has no superblock.
func find(image []byte) (findings, api.Errno) {
	s, e := layout.FindSuper(image)
	if e != api.OK {
		return findings{}, e
	}
	f := findings{shape: s, by: map[int]api.Node{}}
	f.base, e = journal.Overlay(image)
	if e != api.OK { // what its words were can't be known, so what they are must do
		f.base = image
		f.refused = append(f.refused, api.Breach{Reason: e, Place: api.JournalAt})
	}
	for ino := 1; ino <= s.Inodes; ino++ {
		f.scan(ino)
	}
	return f, api.OK
}

// scan puts down what one inode proves.
func (f *findings) scan(ino int) {
	n, e := replay.Scan(f.base, f.shape, ino)
	switch {
	case e != api.OK:
		f.refused = append(f.refused, api.Breach{Reason: e, Place: ino})
	case n.Kind != api.KindFree:
		f.nodes = append(f.nodes, n)
		f.by[ino] = n
	}
}

// namings: how often the nodes name each page of the device, all together. Scan takes no page that the device hasn't.
func (f findings) namings() []int {
	named := make([]int, f.shape.Pages)
	for _, n := range f.nodes {
		for _, page := range n.Log {
			named[page]++
		}
		for _, page := range mapped(n) {
			named[page]++
		}
	}
	return named
}

// mapped: the pages of a file that are no holes, rising, each with the page of the device that stands there.
func mapped(n api.Node) iter.Seq2[int, int] {
	return func(yield func(int, int) bool) {
		for _, r := range n.Map {
			for i := range r.Count {
				if !yield(r.Off+i, r.Page+i) {
					return
				}
			}
		}
	}
}
