package inode

import (
	"furrow/api"
	"furrow/layout"
)

func goodNode(n api.Node) bool {
	switch n.Kind {
	case api.KindFile:
		return n.Size >= 0 && n.Size <= api.MaxSize && len(n.Names) == 0 && goodMap(n.Map, endPage(n.Size))
	case api.KindDir:
		return n.Size == 0 && len(n.Map) == 0 && goodNames(n.Names)
	}
	return false
}

// endPage: the first file page that lies behind a file of that size.
func endPage(size int) int { return (size + api.PageSize - 1) / api.PageSize }

// goodMap: whether these are longest runs of data pages, none of which reaches to the file page end. It subtracts where it could add: a sum of great numbers would wrap round.
func goodMap(runs []api.Run, end int) bool {
	var last api.Run // no first run goes on from the empty one: page 0 is no data page
	for _, r := range runs {
		next := last.Off + last.Count
		if r.Off < next || r.Count < 1 || r.Count > end-r.Off {
			return false
		}
		if !dataPage(r.Page) || !dataPage(r.Page+r.Count-1) {
			return false
		}
		if r.Off == next && r.Page == last.Page+last.Count {
			return false
		}
		last = r
	}
	return true
}

// dataPage: layout knows which pages these are: it packs the header of no other.
func dataPage(page int) bool {
	_, e := layout.PackHeader(page, api.Header{Owner: api.Root})
	return e == api.OK
}

// goodNames: whether the names are valid and rise strictly, and none stands for the root.
func goodNames(list []api.Dent) bool {
	last := "" // comes before every name
	for _, d := range list {
		if !layout.ValidName(d.Name) || d.Name <= last || d.Ino <= api.Root || d.Ino > api.MaxInodes {
			return false
		}
		last = d.Name
	}
	return true
}
