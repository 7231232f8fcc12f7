package tree

import (
	"strings"

	"furrow/api"
	"furrow/codec"
	"furrow/files"
	"furrow/volume"
)

const (
	slash    = "/"
	rootPath = slash
)

// statOf: what is told of a node.
func statOf(n api.Node) api.Stat {
	s := api.Stat{Ino: n.Ino, Kind: n.Kind, Links: n.Links}
	if n.Kind == api.KindDir {
		s.Size = len(n.Names)
		return s
	}
	s.Size = n.Size
	for _, r := range n.Map {
		s.Pages += r.Count
	}
	return s
}

// pathIn: the path of a name in the directory of that path. (Of all paths the root's alone ends with a slash.)
func pathIn(dir, name string) string {
	return strings.TrimSuffix(dir, slash) + slash + name
}

// sumsOf: what tells the sum of a node's bytes, 0 for a directory. A file's is reckoned once, however many names it has.
func sumsOf(v *volume.Volume) func(api.Node) (uint32, api.Errno) {
	known := map[int]uint32{}
	return func(n api.Node) (uint32, api.Errno) {
		sum, was := known[n.Ino]
		if was || n.Kind == api.KindDir {
			return sum, api.OK
		}
		s, e := files.Whole(v, n.Ino)
		if e != api.OK {
			return 0, e
		}
		sum = codec.Sum([]byte(s))
		known[n.Ino] = sum
		return sum, api.OK
	}
}
