package radix

import "furrow/api"

// Runs: the longest runs of a tree of pages, rising.
func Runs(t *Tree[int]) []api.Run {
	var l []api.Run
	for off, page := range t.From(0) {
		if k := len(l) - 1; k >= 0 && goesOn(l[k], off, page) {
			l[k].Count++
			continue
		}
		l = append(l, api.Run{Off: off, Page: page, Count: 1})
	}
	return l
}

// goesOn: whether the page at off is the one just behind the run.
func goesOn(r api.Run, off, page int) bool {
	return off == r.Off+r.Count && page == r.Page+r.Count
}

// Load: the tree of runs. ErrOff: a run with an offset that is none, or with a page below 1 or none at all; where runs overlap the later one holds.
func Load(runs []api.Run) (*Tree[int], api.Errno) {
	t := New[int]()
	for _, r := range runs {
		if !isRun(r) {
			return nil, api.ErrOff
		}
		for i := range r.Count {
			t.Set(r.Off+i, r.Page+i)
		}
	}
	return t, api.OK
}

// isRun: whether a file may have these pages at these offsets. Off is asked for its sign first, and Count against what Off leaves: the sum of the two may be beyond an int.
func isRun(r api.Run) bool {
	return r.Count >= 1 && r.Page >= 1 && r.Off >= 0 && r.Count <= api.MaxFilePages-r.Off
}
