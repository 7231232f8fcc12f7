package saved

import (
	"furrow/api"
	"furrow/codec"
	"furrow/layout"
)

const (
	areaEnd   = api.SavedAt + api.SavedSize                               // the address behind the record's area
	firstData = (api.TableAt + api.MinInodes*api.LineSize) / api.PageSize // the data area's first page behind the smallest table
)

// head: what a record says ahead of its spans.
type head struct {
	stamp uint32
	spans int
}

func headOf(r api.Saved) head { return head{stamp: r.Stamp, spans: len(r.Spans)} }

// same: whether each span of the one list is the one at its place in the other, which is as long.
func same(a, b []api.Span) bool {
	for i, s := range a {
		if s != b[i] {
			return false
		}
	}
	return true
}

// goodSpans: whether spans are such as a good record has them, however many. It subtracts where it could add: a sum of great numbers would wrap round.
func goodSpans(list []api.Span) bool {
	end := 0
	for _, s := range list {
		if s.From < firstData || s.From >= api.MaxPages || s.Count < 1 || s.Count > api.MaxPages-s.From {
			return false
		}
		if s.From <= end {
			return false
		}
		end = s.From + s.Count
	}
	return true
}

// fits: whether a device of so many bytes may have the shape.
func fits(sh api.Shape, size int) bool {
	right, e := layout.Fit(api.Super{Pages: sh.Pages, Inodes: sh.Inodes, Cores: sh.Cores})
	return e == api.OK && sh == right && size == sh.Pages*api.PageSize
}

// believed: the stamp that the clean word of an image names; 0, if it names none.
func believed(image []byte) uint32 {
	w, _ := codec.Word(image, api.CleanAt)
	stamp, _ := codec.Unseal(api.CleanAt, w)
	return stamp
}

// area: the bytes of an image among which its record stands, in memory of their own.
func area(image []byte) []byte {
	b := make([]byte, api.SavedSize)
	copy(b, image[api.SavedAt:])
	return b
}
