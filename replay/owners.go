package replay

import (
	"slices"

	"furrow/api"
)

// owned: the pages that the nodes own, rising; or the breach: ErrRange (its place is told to nobody), or ErrTwice at the least page that is named twice.
func owned(s api.Shape, nodes []api.Node) ([]int, error) {
	if !isShape(s) || !allData(s, nodes) {
		return nil, breach(api.ErrRange, 0)
	}
	named := namings(nodes)
	pages := make([]int, 0, len(named))
	for page := range named {
		pages = append(pages, page)
	}
	slices.Sort(pages)
	for _, page := range pages {
		if named[page] > 1 {
			return nil, breach(api.ErrTwice, page)
		}
	}
	return pages, nil
}

// namings: how often the nodes name each page that they own. All of them are in the data area, so they are few.
func namings(nodes []api.Node) map[int]int {
	named := map[int]int{}
	for _, n := range nodes {
		for _, page := range n.Log {
			named[page]++
		}
		for _, r := range n.Map {
			for i := range r.Count {
				named[r.Page+i]++
			}
		}
	}
	return named
}

// allData: whether all that the nodes own is in the data area of the shape, which is a good one.
func allData(s api.Shape, nodes []api.Node) bool {
	good := true
search:
	for _, n := range nodes {
		for _, page := range n.Log {
			if !dataPage(s, page) {
				good = false
				break search
			}
		}
		for _, r := range n.Map {
			if !dataRun(s, r) {
				good = false
				break search
			}
		}
	}
	return good
}

func dataPage(s api.Shape, page int) bool { return s.Data <= page && page < s.Pages }

// dataRun asks what is left behind the run's first page, because a sum of its numbers could wrap round.
func dataRun(s api.Shape, r api.Run) bool {
	return dataPage(s, r.Page) && r.Count >= 1 && r.Count <= s.Pages-r.Page
}
