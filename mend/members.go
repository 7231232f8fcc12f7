package mend

import (
	"slices"
	"strings"

	"furrow/api"
)

const zero = "\x00"

// members: the places as an archive's members, in its order.
func (r *rescue) members() []api.Member {
	slices.SortFunc(r.places, func(a, b place) int { return slices.Compare(namesOf(a.path), namesOf(b.path)) })
	var list []api.Member
	firsts := map[int]int{} // where in the list a file has its first place, by its number
	for _, p := range r.places {
		m := api.Member{Kind: p.node.Kind, Path: p.path}
		if first, was := firsts[p.node.Ino]; was {
			m.Kind, m.Link = api.MemberLink, list[first].Path
		} else if m.Kind == api.KindFile {
			firsts[p.node.Ino] = len(list)
			m.Size, m.Pieces = p.node.Size, r.pieces(p.node)
		}
		list = append(list, m)
	}
	return list
}

// namesOf: the names of a path. Paths are ordered by them: the slash's byte is above some that stand in names.
func namesOf(path string) []string { return strings.Split(path, slash) }

// pieces: a file's pages that aren't all zeros, up to its size.
func (r *rescue) pieces(n api.Node) []api.Piece {
	var list []api.Piece
	for off, page := range mapped(n) {
		from := off * api.PageSize
		many := min(api.PageSize, n.Size-from) // at least one: what lies behind the size isn't in the map
		text := string(r.base[page*api.PageSize:][:many])
		if !zeros(text) {
			list = append(list, api.Piece{Off: from, Data: text})
		}
	}
	return list
}

func zeros(text string) bool { return strings.Trim(text, zero) == "" }
