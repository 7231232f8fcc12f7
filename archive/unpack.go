package archive

import (
	"strings"

	"furrow/api"
	"furrow/fs"
)

// noDirectory: why nothing can be made below a path: nil, if it leads to a directory.
func noDirectory(f *fs.FS, under string) error {
	s, err := f.Stat(under)
	if err != nil {
		return err
	}
	if s.Kind != api.KindDir {
		return api.ErrNotDir
	}
	return nil
}

// placeOf: where the member of a path is made.
func placeOf(under, path string) string {
	return strings.TrimRight(under, slash) + slash + path
}

// makes a member below a directory; why the first call was refused that was.
func makes(f *fs.FS, under string, m api.Member) error {
	at := placeOf(under, m.Path)
	switch m.Kind {
	case api.KindDir:
		return f.Mkdir(at)
	case api.MemberLink:
		return f.Link(placeOf(under, m.Link), at)
	}
	return makesFile(f, at, m)
}

func makesFile(f *fs.FS, at string, m api.Member) error {
	if err := f.Create(at); err != nil {
		return err
	}
	size := 0
	for _, p := range m.Pieces {
		if err := f.Write(at, p.Off, p.Data); err != nil {
			return err
		}
		size = p.Off + len(p.Data)
	}
	if size == m.Size {
		return nil
	}
	return f.Truncate(at, m.Size)
}
