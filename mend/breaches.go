package mend

import (
	"slices"

	"furrow/api"
)

// twice: the breaches of the shared pages, rising.
func (f findings) twice() []api.Breach {
	var list []api.Breach
	for page, times := range f.namings() {
		if times > 1 {
			list = append(list, api.Breach{Reason: api.ErrTwice, Place: page})
		}
	}
	return list
}

// rootless: the breach of a tree that has no top.
func (f findings) rootless() []api.Breach {
	if f.hasRoot() {
		return nil
	}
	return []api.Breach{{Reason: api.ErrRoot, Place: api.Root}}
}

func (f findings) hasRoot() bool { return f.by[api.Root].Kind == api.KindDir }

// hanging: the breaches of the directories that have a name for what isn't there.
func (f findings) hanging() []api.Breach {
	return f.told(api.ErrHang, func(n api.Node) bool {
		return slices.ContainsFunc(n.Names, func(d api.Dent) bool {
			_, there := f.by[d.Ino]
			return !there
		})
	})
}

// miscounted: the breaches of the nodes that have too few names, or too many.
func (f findings) miscounted() []api.Breach {
	names := map[int]int{}
	for _, n := range f.nodes {
		for _, d := range n.Names {
			names[d.Ino]++
		}
	}
	return f.told(api.ErrCount, func(n api.Node) bool { return names[n.Ino] != wanted(n) })
}

// wanted: how many names a node is to have. (Scan takes no slot of a file without links, and those of a directory are 1.)
func wanted(n api.Node) int {
	if n.Ino == api.Root {
		return 0
	}
	return n.Links
}

// lost: the breaches of the nodes that aren't reached.
func (f findings) lost() []api.Breach {
	reached := map[int]int{}
	var reach func(ino int)
	reach = func(ino int) {
		reached[ino]++
		for _, d := range f.by[ino].Names {
			if reached[d.Ino] == 0 {
				reach(d.Ino)
			}
		}
	}
	if f.hasRoot() {
		reach(api.Root)
	}
	return f.told(api.ErrLost, func(n api.Node) bool { return reached[n.Ino] == 0 })
}

// told: a breach for each node, rising, of which something is so.
func (f findings) told(why api.Errno, so func(n api.Node) bool) []api.Breach {
	var list []api.Breach
	for _, n := range f.nodes {
		if so(n) {
			list = append(list, api.Breach{Reason: why, Place: n.Ino})
		}
	}
	return list
}
