package mend_test

import (
	"slices"
	"sort"
	"strconv"
	"strings"

	"furrow/api"
	"furrow/journal"
	"furrow/layout"
	"furrow/replay"
)

// sight: what the chapter's words make of an image, written down a second time. What has no number 1 to Inodes isn't there.
type sight struct {
	base    []byte
	journal api.Errno
	refused [257]api.Errno
	nodes   [257]*api.Node
	names   []name
}

// name: a name of a directory, and what it stands for.
type name struct {
	dir  int
	text string
	ino  int
}

func seen(b []byte) (*sight, bool) {
	sh, e := layout.FindSuper(b)
	if e != api.OK {
		return nil, false
	}
	s := &sight{base: b}
	over, e := journal.Overlay(b)
	if s.journal = e; e == api.OK {
		s.base = over
	}
	for i := range sh.Inodes {
		n, e := replay.Scan(s.base, sh, i+1)
		s.refused[i+1] = e
		if e == api.OK && n.Kind != 0 {
			s.nodes[i+1] = &n
		}
		if n.Kind == 2 {
			for _, d := range n.Names {
				s.names = append(s.names, name{i + 1, d.Name, d.Ino})
			}
		}
	}
	return s, true
}

// pagesOf: the pages that a node's map names.
func pagesOf(n api.Node) []int {
	var l []int
	for _, r := range n.Map {
		l = append(l, from(r.Page, r.Count)...)
	}
	return l
}

// shared: the pages that are named more than once, rising.
func (s *sight) shared() []int {
	var all, twice []int
	for _, n := range s.nodes {
		if n != nil {
			all = append(append(all, n.Log...), pagesOf(*n)...)
		}
	}
	slices.Sort(all)
	for k := 1; k < len(all); k++ {
		if all[k] == all[k-1] {
			twice = append(twice, all[k])
		}
	}
	return slices.Compact(twice)
}

func (s *sight) isDir(ino int) bool { return s.nodes[ino] != nil && s.nodes[ino].Kind == 2 }

// reached: which nodes are reached: names are gone through again and again, till nothing comes to it.
func (s *sight) reached() [257]bool {
	var is [257]bool
	is[1] = s.isDir(1)
	for more := true; more; {
		more = false
		for _, n := range s.names {
			if is[n.dir] && !is[n.ino] {
				is[n.ino], more = true, true
			}
		}
	}
	return is
}

// modelBreaches: P22.1.
func modelBreaches(b []byte) []api.Breach {
	s, ok := seen(b)
	if !ok {
		return []api.Breach{{Reason: 31}}
	}
	var list []api.Breach
	if s.journal != 0 {
		list = append(list, api.Breach{Reason: s.journal, Place: 512})
	}
	for i, e := range s.refused {
		if e != 0 {
			list = append(list, api.Breach{Reason: e, Place: i})
		}
	}
	for _, p := range s.shared() {
		list = append(list, api.Breach{Reason: api.ErrTwice, Place: p})
	}
	if !s.isDir(1) {
		list = append(list, api.Breach{Reason: api.ErrRoot, Place: 1})
	}
	var hangs [257]bool
	var names [257]int
	for _, n := range s.names {
		names[n.ino]++
		if s.nodes[n.ino] == nil {
			hangs[n.dir] = true
		}
	}
	for i, is := range hangs {
		if is {
			list = append(list, api.Breach{Reason: api.ErrHang, Place: i})
		}
	}
	for i, n := range s.nodes {
		if n == nil {
			continue
		}
		want := n.Links
		if i == 1 {
			want = 0
		} else if n.Kind == 2 {
			want = 1
		}
		if names[i] != want || i != 1 && names[i] < 1 {
			list = append(list, api.Breach{Reason: api.ErrCount, Place: i})
		}
	}
	for i, is := range s.reached() {
		if !is && s.nodes[i] != nil {
			list = append(list, api.Breach{Reason: api.ErrLost, Place: i})
		}
	}
	return list
}

// spot: a place: a path and a number; the directory of what was lost has the number 0.
type spot struct {
	path string
	ino  int
}

// salvage: a rescue by the chapter's words.
type salvage struct {
	*sight
	kept   [257]bool
	spots  []spot
	losses []api.Loss
}

func (v *salvage) lose(why api.Errno, place int, text string) {
	v.losses = append(v.losses, api.Loss{Reason: why, Place: place, Name: text})
}

// spotsOf: how many places a number has.
func (v *salvage) spotsOf(ino int) int {
	many := 0
	for _, s := range v.spots {
		if s.ino == ino {
			many++
		}
	}
	return many
}

// has: whether a kept node has a place.
func (v *salvage) has(ino int) bool {
	return ino == 1 && v.isDir(1) || v.spotsOf(ino) > 0
}

// modelRescue: P22.3 to P22.6.
func modelRescue(b []byte) ([]api.Member, []api.Loss) {
	s, ok := seen(b)
	if !ok {
		return nil, []api.Loss{{Reason: 31}}
	}
	v := &salvage{sight: s}
	if s.journal != 0 {
		v.lose(s.journal, 512, "")
	}
	for i, e := range s.refused {
		if e != 0 {
			v.lose(e, i, "")
		}
	}
	shared := s.shared()
	for i, n := range s.nodes {
		if n == nil {
			continue
		}
		v.kept[i] = true
		for _, p := range pagesOf(*n) {
			v.kept[i] = v.kept[i] && !slices.Contains(shared, p)
		}
		if !v.kept[i] {
			v.lose(api.ErrTwice, i, "")
		}
	}
	if v.isDir(1) {
		v.down("", 1)
	} else {
		v.lose(api.ErrRoot, 1, "")
	}
	v.gather()
	return v.members(), v.losses
}

// down: P22.4.
func (v *salvage) down(at string, dir int) {
	for _, n := range v.nodes[dir].Names {
		p := strings.TrimPrefix(at+"/"+n.Name, "/")
		switch {
		case !v.kept[n.Ino]:
			v.lose(api.ErrHang, dir, n.Name)
		case len(p) > 199:
			v.lose(api.ErrPathLong, dir, n.Name)
		case v.isDir(n.Ino) && v.has(n.Ino):
			v.lose(api.ErrCount, dir, n.Name)
		case v.isDir(n.Ino):
			v.spots = append(v.spots, spot{p, n.Ino})
			v.down(p, n.Ino)
		case v.spotsOf(n.Ino) == 100:
			v.lose(api.ErrCount, dir, n.Name)
		default:
			v.spots = append(v.spots, spot{p, n.Ino})
		}
	}
}

// left: the kept nodes without a place, rising.
func (v *salvage) left() []int {
	var l []int
	for i, is := range v.kept {
		if is && !v.has(i) {
			l = append(l, i)
		}
	}
	return l
}

// gather: P22.5.
func (v *salvage) gather() {
	if len(v.left()) == 0 {
		return
	}
	home := "lost"
	for slices.ContainsFunc(v.spots, func(s spot) bool { return s.path == home }) {
		home += "+"
	}
	if len(home) > 28 {
		for _, i := range v.left() {
			v.lose(api.ErrLost, i, "")
		}
		return
	}
	v.spots = append(v.spots, spot{home, 0})
	for l := v.left(); len(l) > 0; l = v.left() {
		free := slices.DeleteFunc(slices.Clone(l), func(i int) bool {
			return slices.ContainsFunc(v.names, func(n name) bool { return n.ino == i && n.dir != i && slices.Contains(l, n.dir) })
		})
		i := append(free, l...)[0]
		p := home + "/" + strconv.Itoa(i)
		v.spots = append(v.spots, spot{p, i})
		v.lose(api.ErrLost, i, "")
		if v.isDir(i) {
			v.down(p, i)
		}
	}
}

// isAhead: whether the one path is ahead of the other: as texts whose slashes are below every byte of a name.
func isAhead(a, b string) bool {
	return strings.ReplaceAll(a, "/", "\x00") < strings.ReplaceAll(b, "/", "\x00")
}

// members: P22.6.
func (v *salvage) members() []api.Member {
	sort.Slice(v.spots, func(i, j int) bool { return isAhead(v.spots[i].path, v.spots[j].path) })
	var first [257]string
	var list []api.Member
	for _, s := range v.spots {
		switch {
		case s.ino == 0 || v.isDir(s.ino):
			list = append(list, aDir(s.path))
		case first[s.ino] != "":
			list = append(list, aLink(s.path, first[s.ino]))
		default:
			first[s.ino] = s.path
			n := v.nodes[s.ino]
			list = append(list, aFile(s.path, n.Size, v.pieces(*n)...))
		}
	}
	return list
}

// pieces: the file's bytes are put together whole, and cut into pages.
func (v *salvage) pieces(n api.Node) []api.Piece {
	text := make([]byte, n.Size+512)
	for _, r := range n.Map {
		copy(text[512*r.Off:], v.base[512*r.Page:][:512*r.Count])
	}
	text = text[:n.Size]
	var l []api.Piece
	for off := 0; off < n.Size; off += 512 {
		part := string(text[off:min(off+512, n.Size)])
		if strings.Count(part, "\x00") < len(part) {
			l = append(l, api.Piece{Off: off, Data: part})
		}
	}
	return l
}
