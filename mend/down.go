package mend

import (
	"iter"

	"furrow/api"
)

const (
	slash = "/"
	top   = "" // the path of the tree's top
)

// placeTop goes down from the tree's top, which has no names where there is no root.
func (r *rescue) placeTop() {
	root := r.by[api.Root]
	if root.Kind != api.KindDir {
		return
	}
	r.counts[api.Root]++
	for p := range r.down(top, root) {
		r.places = append(r.places, p)
		r.taken[p.path]++ // of what is further down too: nobody asks for a path with a slash
	}
}

// down: the places below a directory at a path, each ahead of those below itself. A place is counted ahead of the next name, and a name that can be none is put down as a loss on the way.
func (r *rescue) down(path string, dir api.Node) iter.Seq[place] {
	return func(yield func(place) bool) {
		var descend func(path string, dir api.Node) bool
		descend = func(path string, dir api.Node) bool {
			for _, d := range dir.Names {
				p := place{path: below(path, d.Name), node: r.by[d.Ino]}
				if e := r.refusal(p); e != api.OK {
					r.lose(api.Loss{Reason: e, Place: dir.Ino, Name: d.Name})
					continue
				}
				r.counts[d.Ino]++
				if !yield(p) || !descend(p.path, p.node) {
					return false
				}
			}
			return true
		}
		descend(path, dir)
	}
}

// below: the path of a name in the directory at a path.
func below(path, name string) string {
	if path == top {
		return name
	}
	return path + slash + name
}

// refusal: why a path can't be a place of the node that its name stands for; OK, if it can. (The zero node is none.)
func (r *rescue) refusal(p place) api.Errno {
	places := r.counts[p.node.Ino]
	switch {
	case p.node.Kind == api.KindFree:
		return api.ErrHang
	case len(p.path) >= api.MaxPath: // a slash in front makes it a path of the interface
		return api.ErrPathLong
	case p.node.Kind == api.KindDir && places > 0: // the root among them: it has the top
		return api.ErrCount
	case places >= api.MaxLinks:
		return api.ErrCount
	}
	return api.OK
}
