package mount_test

import (
	"math/rand"
	"slices"
	"strconv"
	"testing"

	"furrow/api"
	"furrow/layout"
)

// draft: a tree that is being drawn, and the pages that are left for it.
type draft struct {
	r     *rand.Rand
	sh    api.Shape
	left  [api.MaxPages]bool
	nodes []api.Node
	texts []api.Dent // every name so far, so that none is drawn twice
}

// pages: up to n pages in a row that nobody has; none if there is none left.
func (f *draft) pages(n int) api.Span {
	for _, i := range f.r.Perm(f.sh.Pages - f.sh.Data) {
		from := f.sh.Data + i
		s := api.Span{From: from}
		for s.Count < n && from+s.Count < f.sh.Pages && f.left[from+s.Count] {
			f.left[from+s.Count] = false
			s.Count++
		}
		if s.Count > 0 {
			return s
		}
	}
	return api.Span{}
}

func (f *draft) name() string {
	return "n" + strconv.Itoa(f.r.Intn(10)) + "." + strconv.Itoa(len(f.texts))
}

// give puts a name for an inode into one of the directories that are there.
func (f *draft) give(ino int) {
	var dirs []int
	for i, n := range f.nodes {
		if n.Kind == api.KindDir && n.Ino != ino {
			dirs = append(dirs, i)
		}
	}
	n := &f.nodes[dirs[f.r.Intn(len(dirs))]]
	d := api.Dent{Name: f.name(), Ino: ino}
	f.texts = append(f.texts, d)
	n.Names = append(n.Names, d)
}

// dirLog: entries that mean a directory's names, some of which came and went.
func (f *draft) dirLog(n api.Node) []api.Entry {
	var l []api.Entry
	for _, i := range f.r.Perm(len(n.Names)) {
		if f.r.Intn(4) == 0 {
			ghost := f.name()
			l = append(l, add(ghost, 2+f.r.Intn(f.sh.Inodes-1)), drop(ghost))
		}
		l = append(l, add(n.Names[i].Name, n.Names[i].Ino))
	}
	return l
}

// fileLog: entries of a file, and its map and size behind them.
func (f *draft) fileLog(n *api.Node) []api.Entry {
	var l []api.Entry
	var at [api.MaxFilePages]int
	for range f.r.Intn(20) {
		e := sized(f.r.Intn(6000))
		off, s := f.r.Intn(9), f.pages(1+f.r.Intn(4))
		if s.Count > 0 && f.r.Intn(4) > 0 {
			e = write(off, s.Count, s.From, e.Size)
		}
		for i := range s.Count {
			if e.Kind == api.EntWrite {
				f.leave(at[off+i])
				at[off+i] = s.From + i
			} else {
				f.leave(s.From + i)
			}
		}
		for off := (e.Size + 511) / 512; off < len(at); off++ {
			f.leave(at[off])
			at[off] = 0
		}
		n.Size = e.Size
		l = append(l, e)
	}
	n.Map = longest(at[:])
	return l
}

func (f *draft) leave(page int) {
	if page > 0 {
		f.left[page] = true
	}
}

// longest: the longest runs of what stands at each file page.
func longest(at []int) []api.Run {
	var l []api.Run
	for off, page := range at {
		if page == 0 {
			continue
		}
		if k := len(l) - 1; k >= 0 && l[k].Off+l[k].Count == off && l[k].Page+l[k].Count == page {
			l[k].Count++
			continue
		}
		l = append(l, run(off, page, 1))
	}
	return l
}

// lay writes a node's log to the disk; false if there are too few pages for it.
func (f *draft) lay(d *disk, n *api.Node) bool {
	var entries []api.Entry
	if n.Kind == api.KindDir {
		entries = f.dirLog(*n)
	} else {
		entries = f.fileLog(n)
	}
	for range (len(entries) + 6) / 7 {
		s := f.pages(1)
		if s.Count == 0 {
			return false
		}
		n.Log = append(n.Log, s.From)
	}
	s := d.log(n.Ino, n.Kind, n.Links, n.Log, entries...)
	n.Head, n.Tail, n.Entries = s.Head, s.Tail, len(entries)
	slices.SortFunc(n.Names, func(a, b api.Dent) int {
		if a.Name < b.Name {
			return -1
		}
		return 1
	})
	return true
}

// drawn: an image of a tree of up to so many inodes, with anything at all where nothing has to stand, and the state that it means.
func drawn(t *testing.T, r *rand.Rand, sh api.Shape, most int) (*disk, api.State) {
	t.Helper()
	for {
		f := &draft{r: r, sh: sh, nodes: []api.Node{dir(1)}}
		for p := sh.Data; p < sh.Pages; p++ {
			f.left[p] = true
		}
		for _, i := range r.Perm(sh.Inodes - 1)[:r.Intn(min(most, sh.Inodes))] {
			n := dir(2 + i)
			if r.Intn(3) > 0 {
				n = file(2+i, 1+r.Intn(3))
			}
			for range n.Links {
				f.give(n.Ino)
			}
			f.nodes = append(f.nodes, n)
		}
		if d, ok := f.disk(t); ok {
			return d, f.state()
		}
	}
}

func (f *draft) disk(t *testing.T) (*disk, bool) {
	t.Helper()
	d := scribbled(t, f.r, f.sh)
	for i := range f.nodes {
		if !f.lay(d, &f.nodes[i]) {
			return nil, false
		}
	}
	return d, true
}

func (f *draft) state() api.State {
	slices.SortFunc(f.nodes, func(a, b api.Node) int { return a.Ino - b.Ino })
	var taken []int
	for p, left := range f.left {
		if !left {
			taken = append(taken, p)
		}
	}
	return api.State{Shape: f.sh, Nodes: f.nodes, Free: rest(f.sh, taken)}
}

// tableWords: n words of the table that a journal may name.
func tableWords(r *rand.Rand, sh api.Shape, n int) []int {
	var l []int
	for _, i := range r.Perm(3 * sh.Inodes)[:n] {
		l = append(l, layout.SlotAt(1+i/3)+8*(i%3))
	}
	return l
}

// spoilt: a disk with one thing changed, as a rule to something that is good for itself.
func spoilt(r *rand.Rand, d *disk) *disk {
	d = d.copied()
	ino := 1 + r.Intn(d.sh.Inodes)
	if r.Intn(2) == 0 {
		ino = 1 + r.Intn(min(d.sh.Inodes, 4))
	}
	page := d.sh.Data + r.Intn(d.sh.Pages-d.sh.Data)
	s, e := d.opened(ino)
	if e == api.OK && s.Tail > 0 && r.Intn(4) > 0 {
		page = []int{s.Head, (s.Tail - 1) / 512}[r.Intn(2)]
	}
	switch kind := r.Intn(14); {
	case kind == 0:
		d.slot(ino, api.Slot{})
	case kind == 1:
		d.slot(ino, api.Slot{Kind: 1 + r.Intn(2), Links: 1 + r.Intn(3)})
	case kind == 2 && s.Kind == api.KindFile:
		d.slot(ino, api.Slot{Kind: s.Kind, Links: 1 + r.Intn(3), Head: s.Head, Tail: s.Tail})
	case kind == 3 && s.Tail > 0:
		d.slot(ino, api.Slot{Kind: 3 - s.Kind, Links: 1, Head: s.Head, Tail: s.Tail})
	case kind == 4 && s.Tail > 0:
		d.slot(ino, api.Slot{Kind: s.Kind, Links: s.Links, Head: s.Head, Tail: s.Tail - 64 + 128*r.Intn(2)})
	case kind == 5 && s.Tail > 0:
		d.slot(ino, api.Slot{Kind: s.Kind, Links: s.Links, Head: d.sh.Data - 1 + r.Intn(d.sh.Pages-d.sh.Data+2), Tail: s.Tail})
	case kind == 6:
		d.put(layout.SlotAt(ino)+8*r.Intn(3), r.Uint64())
	case kind == 7:
		d.hold(512*page+8*r.Intn(2), []int{0, ino, page, d.sh.Data + r.Intn(d.sh.Pages-d.sh.Data)}[r.Intn(4)])
	case kind == 8:
		d.b[r.Intn(len(d.b))] ^= 1 << r.Intn(8)
	case kind == 9:
		d.b[512+r.Intn(96)] ^= 1 << r.Intn(8)
	case kind == 10:
		d.b[64*r.Intn(2)+r.Intn(64)] ^= 1 << r.Intn(8)
	case kind == 11:
		d.swap(r)
	default:
		d.other(r, page)
	}
	return d
}

// swap lets two Adds of the device's pages have one another's inodes.
func (d *disk) swap(r *rand.Rand) {
	var at []int
	var adds []api.Entry
	for i := range (d.sh.Pages - d.sh.Data) * 8 {
		var l api.Line
		copy(l[:], d.b[512*d.sh.Data+64*i:])
		if e, no := layout.OpenEntry(l); no == api.OK && e.Kind == api.EntAdd {
			at, adds = append(at, d.sh.Data*8+i), append(adds, e)
		}
	}
	if len(at) < 2 {
		return
	}
	p := r.Perm(len(at))
	a, b := p[0], p[1]
	adds[a].Ino, adds[b].Ino = adds[b].Ino, adds[a].Ino
	d.line(at[a]/8, at[a]%8, adds[a])
	d.line(at[b]/8, at[b]%8, adds[b])
}

// other puts another entry into a line of a log page, with the number that stood there.
func (d *disk) other(r *rand.Rand, page int) {
	place := 1 + r.Intn(7)
	var l api.Line
	copy(l[:], d.b[512*page+64*place:])
	e, no := layout.OpenEntry(l)
	if no != api.OK {
		return
	}
	switch e.Kind {
	case api.EntWrite:
		e.Page = d.sh.Data + r.Intn(d.sh.Pages-d.sh.Data-e.Count+1)
	case api.EntAdd:
		e.Ino = 2 + r.Intn(d.sh.Inodes-1)
	case api.EntDrop:
		e.Name = "no such name"
	}
	if r.Intn(12) == 0 {
		e.Seq++
	}
	d.line(page, place, e)
}
