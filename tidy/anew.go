package tidy

import (
	"furrow/api"
	"furrow/volume"
)

// pagesOf: the file pages that are no holes, rising.
func pagesOf(runs []api.Run) []int {
	var offs []int
	for _, r := range runs {
		for i := range r.Count {
			offs = append(offs, r.Off+i)
		}
	}
	return offs
}

// writeAnew: a file's pages go to new places as one; whether they did. Where no page is left for the log they stay.
func writeAnew(v *volume.Volume, n api.Node, offs []int) (bool, api.Errno) {
	fills, e := fillsOf(v.Page, n.Ino, offs)
	if e != api.OK {
		return false, e
	}
	switch e := v.Do([]api.Edit{{Ino: n.Ino, Fills: fills, Size: n.Size}}); e {
	case api.OK:
		return true, api.OK
	case api.ErrNoSpace:
		return false, api.OK
	default:
		return false, e
	}
}

// fillsOf: whole pages as they are, what stands behind the file's end too: a page that moves is still the same page.
func fillsOf(page func(ino, off int) ([]byte, api.Errno), ino int, offs []int) ([]api.Fill, api.Errno) {
	var fills []api.Fill
	for _, off := range offs {
		data, e := page(ino, off)
		if e != api.OK {
			return nil, e
		}
		fills = append(fills, api.Fill{Off: off, Data: data})
	}
	return fills, api.OK
}
