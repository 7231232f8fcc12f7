package volume

import (
	"slices"

	"furrow/api"
	"furrow/extents"
	"furrow/ilog"
	"furrow/replay"
)

// homeOf: the core that an inode belongs to.
func homeOf(s api.Shape, ino int) int { return ino % s.Cores }

// provide: all pages that the parts need, part by part; false, if there aren't enough. Those that the edits let go don't count: they may be looked at till the commit.
func (t *transaction) provide(s api.Shape) bool {
	for i := range t.parts {
		p := &t.parts[i]
		if p.edit.Links != freed && !t.provideOne(p, homeOf(s, p.edit.Ino)) {
			return false
		}
	}
	return true
}

// provideOne: the pages of a part's Fills, then those that its log needs for what it gets.
func (t *transaction) provideOne(p *part, home int) bool {
	pages, ok := take(t.pool, home, len(p.edit.Fills))
	if !ok {
		return false
	}
	for i, f := range p.edit.Fills {
		t.taken[place{p.edit.Ino, f.Off}] = pages[i]
	}
	p.grow(t.writes(p.edit)) // a file takes each Write of pages that lie ahead of its Size
	p.pages, ok = take(t.pool, home, ilog.Need(p.was.Tail, len(p.entries)))
	p.now.Log = append(append([]int(nil), p.was.Log...), p.pages...)
	return ok
}

// writes: the entries of an edit's Fills, each as long as may be.
func (t *transaction) writes(e api.Edit) []api.Entry {
	var list []api.Entry
	for _, f := range e.Fills {
		page := t.taken[place{e.Ino, f.Off}]
		if last := len(list) - 1; last >= 0 && goesOn(list[last], f.Off, page) {
			list[last].Count++
			continue
		}
		list = append(list, api.Entry{Kind: api.EntWrite, Off: f.Off, Count: 1, Page: page, Size: e.Size})
	}
	return list
}

// goesOn: whether a Write may have one page more, with that Off and page.
func goesOn(w api.Entry, off, page int) bool {
	return w.Count < api.MaxRun && off == w.Off+w.Count && page == w.Page+w.Count
}

// take: n pages in the order of taking; false, and none, if fewer are free.
func take(pool *extents.Pool, home, n int) ([]int, bool) {
	spans, e := pool.Take(home, n)
	var pages []int
	for _, s := range spans {
		for i := range s.Count {
			pages = append(pages, s.From+i)
		}
	}
	return pages, e == api.OK
}

// letGo: the pages that the parts' inodes owned and own no more. (Nobody else owns one of them: what a transaction names anew it has taken.)
func letGo(s api.Shape, parts []part) []int {
	var was, now []api.Node
	for _, p := range parts {
		was, now = append(was, p.was), append(now, p.now)
	}
	owned, _ := replay.Owners(s, was)
	kept, _ := replay.Owners(s, now)
	return slices.DeleteFunc(owned, func(page int) bool {
		_, still := slices.BinarySearch(kept, page)
		return still
	})
}
