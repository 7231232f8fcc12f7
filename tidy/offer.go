package tidy

import (
	"furrow/api"
	"furrow/extents"
)

// offerTo: the n pages that a transaction would take for an inode, in the order of taking; false, if there are none. (A volume that somebody closed meanwhile has no shape, so no pool and no cores to reckon with.)
func offerTo(st api.State, ino, n int) ([]int, bool) {
	pool, e := extents.NewPool(st.Shape, st.Free)
	if e != api.OK || n == 0 {
		return nil, false
	}
	spans, e := pool.Take(ino%st.Shape.Cores, n)
	if e != api.OK {
		return nil, false
	}
	var pages []int
	for _, s := range spans {
		for i := range s.Count {
			pages = append(pages, s.From+i)
		}
	}
	return pages, true
}

// spreadOf: the runs of a map in which these file pages, of which there is one at least, stand at these device pages.
func spreadOf(offs, pages []int) int {
	runs := 1
	for i := 1; i < len(offs); i++ {
		if offs[i] != offs[i-1]+1 || pages[i] != pages[i-1]+1 {
			runs++
		}
	}
	return runs
}
