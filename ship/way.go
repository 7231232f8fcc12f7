package ship

import (
	"iter"
	"slices"

	"furrow/api"
)

// way: the steps from the one good list to the other. What goes is taken away from the list's end on, so that a directory is empty when its turn comes; what comes is made from the beginning on, so that its directory, or the file that it is a name of, is there.
func way(from, to []api.Member) iter.Seq[api.Step] {
	table := rules()
	was, will := byPath(from), byPath(to)
	return func(yield func(api.Step) bool) {
		for _, m := range slices.Backward(from) {
			if !kept(m, will[m.Path]) && !yield(table[m.Kind].goes(m)) {
				return
			}
		}
		for _, m := range to {
			for _, s := range table[m.Kind].leads(was[m.Path], m) {
				if !yield(s) {
					return
				}
			}
		}
	}
}

func byPath(list []api.Member) map[string]api.Member {
	by := map[string]api.Member{}
	for _, m := range list {
		by[m.Path] = m
	}
	return by
}

// kept: whether what stands at a path stays there: the two are what the lists have at it, the zero member, which has no kind, where that is nothing. Only links have a Link, and theirs must be the same; other members have none, and it is the same there too.
func kept(from, to api.Member) bool {
	return from.Kind == to.Kind && from.Link == to.Link
}
