package mount

import (
	"furrow/api"
	"furrow/codec"
	"furrow/extents"
	"furrow/layout"
)

// trail: how far a log has been gone over. The slot stands in the overlay's shape.
type trail struct {
	ino     int
	slot    api.Slot
	page    int             // the page at hand
	walked  *extents.Bitmap // so that a chain that comes back to itself ends there
	pages   []int
	entries []api.Entry
}

// newTrail: at the beginning of a log that isn't empty.
func newTrail(ino int, slot api.Slot) *trail {
	return &trail{ino: ino, slot: slot, page: slot.Head, walked: extents.NewBitmap(api.MaxPages)}
}

// goOver goes over the page at hand, and on to the next: whether it was the last one, or its breach.
func (t *trail) goOver(o overlay) (bool, api.Errno) {
	next, e := t.header(o)
	if e != api.OK {
		return false, e
	}
	if e := t.places(o); e != api.OK {
		return false, e
	}
	t.pages = append(t.pages, t.page)
	t.walked.Set(t.page)
	switch {
	case t.atLast():
		return true, api.OK
	case next == 0 || t.walked.Has(next):
		return false, api.ErrLog
	}
	t.page = next
	return false, api.OK
}

func (t *trail) atLast() bool { return t.page == lastPage(t.slot.Tail) }

// header: which page the header of the page at hand names as the next one; of the last page, where that isn't looked at, 0.
func (t *trail) header(o overlay) (int, api.Errno) {
	at := t.page * api.PageSize
	if owner, e := o.held(at + api.WordSize); e != api.OK || owner != t.ino {
		return 0, api.ErrHeader
	}
	if t.atLast() {
		return 0, api.OK
	}
	next, e := o.held(at)
	if e != api.OK || next != 0 && !o.dataPage(next) {
		return 0, api.ErrHeader
	}
	return next, api.OK
}

// places reads the entries of the page at hand; in the last page what stands behind the tail isn't looked at.
func (t *trail) places(o overlay) api.Errno {
	from := t.page*api.PageSize + api.LineSize
	end := (t.page + 1) * api.PageSize
	if t.atLast() {
		end = t.slot.Tail
	}
	lines, _ := codec.Lines(o.bytes[from:end])
	for _, line := range lines {
		e, no := layout.OpenEntry(line)
		if no != api.OK || !o.within(e) {
			return api.ErrEntry
		}
		if e.Seq != uint64(len(t.entries)+1) {
			return api.ErrLog
		}
		t.entries = append(t.entries, e)
	}
	return api.OK
}
