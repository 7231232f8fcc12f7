package files

import (
	"slices"

	"furrow/api"
	"furrow/volume"
)

// bytesOf: n bytes of a file from one of them on, put together from its pages.
func bytesOf(v *volume.Volume, ino, from, n int) (string, api.Errno) {
	b := make([]byte, n)
	for done := 0; done < n; {
		at := from + done
		page, e := v.Page(ino, at/api.PageSize)
		if e != api.OK {
			return "", e
		}
		done += copy(b[done:], page[at%api.PageSize:])
	}
	return string(b), api.OK
}

// laidOver: the pages that data touches, as they are with its bytes at their places from off on.
func laidOver(v *volume.Volume, f api.Node, off int, data string) ([]api.Fill, api.Errno) {
	var fills []api.Fill
	for done := 0; done < len(data); {
		at := off + done
		page, e := pageUpTo(v, f.Ino, at/api.PageSize, f.Size)
		if e != api.OK {
			return nil, e
		}
		done += copy(page[at%api.PageSize:], data[done:])
		fills = append(fills, api.Fill{Off: at / api.PageSize, Data: page})
	}
	return fills, api.OK
}

// pageUpTo: a page's bytes, but 0 from the file's byte size on: what stands behind a file's end is nothing of the file, and would come to light when it grows.
func pageUpTo(v *volume.Volume, ino, off, size int) ([]byte, api.Errno) {
	page, e := v.Page(ino, off)
	if e != api.OK {
		return nil, e
	}
	kept := size - off*api.PageSize
	clear(page[min(max(kept, 0), api.PageSize):])
	return page, api.OK
}

// cutsPage: whether a file that gets this size loses bytes of a page that stays, and that isn't a hole.
func cutsPage(f api.Node, size int) bool {
	return size < f.Size && size%api.PageSize != 0 && stands(f.Map, size/api.PageSize)
}

// stands: whether a file's page is no hole.
func stands(runs []api.Run, off int) bool {
	return slices.ContainsFunc(runs, func(r api.Run) bool { return r.Off <= off && off < r.Off+r.Count })
}

// cutPage ends a file amid a page: the page is written anew without what is cut. The size that goes with it cuts the pages behind.
func cutPage(v *volume.Volume, ino, size int) api.Errno {
	off := size / api.PageSize
	page, e := pageUpTo(v, ino, off, size)
	if e != api.OK {
		return e
	}
	return v.Do([]api.Edit{{Ino: ino, Fills: []api.Fill{{Off: off, Data: page}}, Size: size}})
}
