package ilog

import (
	"furrow/api"
	"furrow/codec"
	"furrow/layout"
)

// chain: the log of a slot that stands in the shape, and isn't empty, in an image that the shape fits.
type chain struct {
	image []byte
	shape api.Shape
	ino   int
	slot  api.Slot
}

// link: a page of a chain; or, with a breach, why there is none where the chain must go on.
type link struct {
	page   int
	breach api.Errno
}

// read: all entries and pages of the chain, or its first breach.
func (c chain) read() ([]api.Entry, []int, api.Errno) {
	var entries []api.Entry
	var pages []int
	breach := api.OK
	links := make(chan link)
	go c.send(links)
	for l := range links { // to the end, behind a breach too: the sender must have ended
		switch {
		case breach != api.OK:
		case l.breach != api.OK:
			breach = l.breach
		default:
			pages = append(pages, l.page)
			entries, breach = c.entries(entries, l.page)
		}
	}
	if breach != api.OK {
		return nil, nil, breach
	}
	return entries, pages, api.OK
}

// send sends the chain's pages, each with a header as it must be, up to the last one; a breach is the last that it sends. No page is sent twice, so it ends.
func (c chain) send(links chan<- link) {
	defer close(links)
	var walked pageSet
	page := c.slot.Head
	for {
		next, e := c.header(page)
		if e != api.OK {
			links <- link{breach: e}
			return
		}
		links <- link{page: page}
		walked[page] = true
		switch {
		case c.last(page):
			return
		case next == 0 || walked[next]:
			links <- link{breach: api.ErrLog}
			return
		}
		page = next
	}
}

func (c chain) last(page int) bool { return page == lastPage(c.slot.Tail) }

// header: which page the header names as the next one; of the last page, where that isn't looked at, 0.
func (c chain) header(page int) (int, api.Errno) {
	at := page * api.PageSize
	if owner, e := c.held(at + api.WordSize); e != api.OK || owner != c.ino {
		return 0, api.ErrHeader
	}
	if c.last(page) {
		return 0, api.OK
	}
	next, e := c.held(at)
	if e != api.OK || next != 0 && !dataPage(c.shape, next) {
		return 0, api.ErrHeader
	}
	return next, api.OK
}

// held: what the sealed word at an address holds.
func (c chain) held(at int) (int, api.Errno) {
	w, _ := codec.Word(c.image, at)
	v, e := codec.Unseal(at, w)
	return int(v), e
}

// entries: the entries ahead of a page, with the page's own behind them.
func (c chain) entries(ahead []api.Entry, page int) ([]api.Entry, api.Errno) {
	end := pageEnd(page)
	if c.last(page) {
		end = c.slot.Tail
	}
	lines, _ := codec.Lines(c.image[firstPlace(page):end])
	for _, line := range lines {
		e, no := layout.OpenEntry(line)
		if no != api.OK || !within(c.shape, e) {
			return nil, api.ErrEntry
		}
		if e.Seq != uint64(len(ahead)+1) {
			return nil, api.ErrLog
		}
		ahead = append(ahead, e)
	}
	return ahead, api.OK
}
