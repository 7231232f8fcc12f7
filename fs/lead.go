package fs

import (
	"furrow/api"
	"furrow/path"
	"furrow/tree"
)

// place: where a path's last part stands, or would stand.
type place struct {
	dir  int
	name string
}

// closed: ErrClosed of a closed volume. (In an open one the root is always there.)
func (f *FS) closed() api.Errno {
	_, e := f.volume.Node(api.Root)
	return e
}

// parsed: a text taken apart. ErrClosed goes ahead of all that may be wrong with the text.
func (f *FS) parsed(text string) (api.Path, api.Errno) {
	if e := f.closed(); e != api.OK {
		return api.Path{}, e
	}
	return path.Parse(text)
}

// parsedBoth: two texts taken apart: the second one is looked at ahead of where the first one leads.
func (f *FS) parsedBoth(text, to string) (api.Path, api.Path, api.Errno) {
	p, e := f.parsed(text)
	if e != api.OK {
		return api.Path{}, api.Path{}, e
	}
	q, e := f.parsed(to)
	if e != api.OK {
		return api.Path{}, api.Path{}, e
	}
	return p, q, api.OK
}

// leads: the inode that a path leads to, and whether it is a directory. ErrNoEnt, ErrNotDir.
func (f *FS) leads(p api.Path) (int, bool, api.Errno) {
	return path.Resolve(f.volume, p)
}

// inodeOf: the same of a text.
func (f *FS) inodeOf(text string) (int, bool, api.Errno) {
	p, e := f.parsed(text)
	if e != api.OK {
		return 0, false, e
	}
	return f.leads(p)
}

// placeOf: the place of a path. ErrPathEnd, ErrNoEnt, ErrNotDir.
func (f *FS) placeOf(p api.Path) (place, api.Errno) {
	dir, name, e := path.Parent(f.volume, p)
	return place{dir, name}, e
}

// fileAt: whether a file stands there, to whose path no slash belongs.
func (f *FS) fileAt(at place) bool {
	ino, isDir := f.volume.Look(at.dir, at.name)
	return ino > 0 && !isDir
}

// makes: a new file or directory (kind) at the place of a path.
func (f *FS) makes(p api.Path, kind int) api.Errno {
	at, e := f.placeOf(p)
	if e != api.OK {
		return e
	}
	_, e = tree.Make(f.volume, at.dir, at.name, kind)
	return e
}
