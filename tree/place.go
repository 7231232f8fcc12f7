package tree

import (
	"slices"

	"furrow/api"
	"furrow/layout"
	"furrow/volume"
)

// thing: what the volume answers for a number: a node, or why there is none.
type thing struct {
	node api.Node
	e    api.Errno
}

func thingAt(v *volume.Volume, ino int) thing {
	n, e := v.Node(ino)
	return thing{n, e}
}

func (t thing) closed() bool   { return t.e == api.ErrClosed }
func (t thing) missing() bool  { return t.e == api.ErrNoFile }
func (t thing) there() bool    { return t.e == api.OK }
func (t thing) isFile() bool   { return t.node.Kind == api.KindFile }
func (t thing) isDir() bool    { return t.node.Kind == api.KindDir }
func (t thing) hasNames() bool { return len(t.node.Names) > 0 }

// place: a name in a directory, and what it stands for there.
type place struct {
	dir  thing
	name string
	what thing // missing, if the directory has no such name
}

func placeAt(v *volume.Volume, dir int, name string) place {
	ino, _ := v.Look(dir, name) // where there is none: 0, which no node has
	return place{thingAt(v, dir), name, thingAt(v, ino)}
}

func (p place) badName() bool { return !layout.ValidName(p.name) }

// below: whether a directory is below top. (A file has no names, so that no way leads on from it.)
func below(v *volume.Volume, dir, top int) bool {
	return dir == top || slices.ContainsFunc(v.Names(top), func(d api.Dent) bool { return below(v, dir, d.Ino) })
}
