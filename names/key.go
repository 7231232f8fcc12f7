package names

import (
	"furrow/api"
	"furrow/layout"
)

// key: a name in a directory. The length tells apart what the zeros behind a short name would make one.
type key struct {
	dir  int
	size int
	name [api.MaxName]byte
}

// keyOf: the key of a name; false of a text that is none, so that a text which is too long isn't cut to one that is there.
func keyOf(dir int, name string) (key, bool) {
	if !layout.ValidName(name) {
		return key{}, false
	}
	k := key{dir: dir, size: len(name)}
	copy(k.name[:], name)
	return k, true
}

// text: the name as it was put in.
func (k key) text() string { return string(k.name[:k.size]) }
