package archive

import (
	"slices"
	"strings"

	"furrow/api"
	"furrow/fs"
)

// membersOf: the members of a file system's whole tree. ErrClosed, and why its items can't be members.
func membersOf(f *fs.FS) ([]api.Member, error) {
	items, err := f.Walk()
	if err != nil {
		return nil, err
	}
	if e := packable(items); e != api.OK {
		return nil, e
	}
	var list []api.Member
	firsts := map[int]int{} // where in the list a file has its first name, by its inode
	for _, i := range items[1:] {
		m := api.Member{Kind: i.Stat.Kind, Path: strings.TrimPrefix(i.Path, slash)}
		if first, was := firsts[i.Stat.Ino]; was {
			m.Kind, m.Link = api.MemberLink, list[first].Path
		} else if m.Kind == api.KindFile {
			firsts[i.Stat.Ino] = len(list)
			m.Size = i.Stat.Size
			if m.Pieces, err = piecesOf(f, i); err != nil {
				return nil, err
			}
		}
		list = append(list, m)
	}
	return list, nil
}

// packable: OK, or why items of a walk, the root ahead of them, can't be members: ErrPathLong, ErrMember.
func packable(items []api.Item) api.Errno {
	switch {
	case slices.ContainsFunc(items, func(i api.Item) bool { return len(i.Path) > api.MaxPath }):
		return api.ErrPathLong
	case len(items)-1 > api.MaxMembers:
		return api.ErrMember
	}
	return api.OK
}

// piecesOf: a file's pages that aren't all zeros.
func piecesOf(f *fs.FS, i api.Item) ([]api.Piece, error) {
	var list []api.Piece
	for off := 0; off < i.Stat.Size; off += api.MaxData {
		text, err := f.Read(i.Path, off, api.MaxData)
		if err != nil {
			return nil, err
		}
		list = append(list, cut(off, text)...)
	}
	return list, nil
}

// cut: the pieces of a file's bytes from off on, where a page begins.
func cut(off int, text string) []api.Piece {
	var list []api.Piece
	for from := 0; from < len(text); from += api.PageSize {
		page := text[from:min(from+api.PageSize, len(text))]
		if !zeros(page) {
			list = append(list, api.Piece{Off: off + from, Data: page})
		}
	}
	return list
}
