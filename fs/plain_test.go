package fs_test

import (
	"hash/crc32"
	"slices"
	"strings"

	"furrow/api"
	"furrow/files"
	"furrow/tree"
	"furrow/volume"
)

// thing: a file or a directory of a plain tree.
type thing struct {
	ino, kind, links int
	names            map[string]*thing
	text             []byte
	pages            map[int]bool // those that aren't holes
}

func (x *thing) isDir() bool  { return x != nil && x.kind == api.KindDir }
func (x *thing) isFile() bool { return x != nil && x.kind == api.KindFile }

// sorted: a directory's names, rising.
func (x *thing) sorted() []string {
	var list []string
	for name := range x.names {
		list = append(list, name)
	}
	slices.Sort(list)
	return list
}

// holds: whether a thing is another one, or has it below itself.
func (x *thing) holds(other *thing) bool {
	if x == other {
		return true
	}
	for _, sub := range x.names {
		if sub.holds(other) {
			return true
		}
	}
	return false
}

func (x *thing) stat() api.Stat {
	s := api.Stat{Ino: x.ino, Kind: x.kind, Links: x.links, Size: len(x.text), Pages: len(x.pages)}
	if x.isDir() {
		s.Size = len(x.names)
	}
	return s
}

// items: what a walk must tell of a thing and of all that is in it.
func (x *thing) items(path string) []api.Item {
	i := api.Item{Path: path, Stat: x.stat()}
	if x.isFile() {
		i.Sum = crc32.ChecksumIEEE(x.text)
	}
	list := []api.Item{i}
	for _, name := range x.sorted() {
		list = append(list, x.names[name].items(strings.TrimSuffix(path, "/")+"/"+name)...)
	}
	return list
}

// plain: a plain tree of names and bytes, and how many inodes there are for it.
type plain struct {
	super api.Super
	root  *thing
}

func newPlain(s api.Super) *plain {
	return &plain{s, &thing{ino: 1, kind: api.KindDir, links: 1, names: map[string]*thing{}}}
}

// grown: the plain tree behind these operations.
func grown(s api.Super, list []op) *plain {
	p := newPlain(s)
	for _, o := range list {
		p.does(o)
	}
	return p
}

func (p *plain) items() []api.Item { return p.root.items("/") }

// used: the numbers that are in use.
func (p *plain) used() map[int]bool {
	used := map[int]bool{}
	for _, i := range p.items() {
		used[i.Stat.Ino] = true
	}
	return used
}

// lowest: the lowest free number; 0, if there is none.
func (p *plain) lowest() int {
	used := p.used()
	for ino := 1; ino <= p.super.Inodes; ino++ {
		if !used[ino] {
			return ino
		}
	}
	return 0
}

// outcome: what an operation answers, what it changes in the plain tree then, and the one call of a lower layer that does the same to a volume (both nil: nothing changes).
type outcome struct {
	answer
	change func()
	below  func(v *volume.Volume) api.Errno
}

func refusal(e api.Errno) outcome { return outcome{answer: answer{e: e}} }

// does: the answer, and the change is made.
func (p *plain) does(o op) answer {
	out := p.asked(o)
	if out.change != nil {
		out.change()
	}
	return out.answer
}

// split: the parts of a path's text, and whether a slash stands behind them; why it is none.
func split(text string) ([]string, bool, api.Errno) {
	parts := strings.FieldsFunc(text, func(r rune) bool { return r == '/' })
	switch {
	case len(text) > 200:
		return nil, false, api.ErrPathLong
	case !strings.HasPrefix(text, "/") || strings.Contains(text, "\x00"):
		return nil, false, api.ErrPathForm
	case slices.ContainsFunc(parts, func(s string) bool { return len(s) > 28 }):
		return nil, false, api.ErrNameLong
	}
	return parts, len(parts) > 0 && strings.HasSuffix(text, "/"), api.OK
}

// lead: what parts lead to; a slash behind them wants a directory.
func (p *plain) lead(parts []string, slash bool) (*thing, api.Errno) {
	way := []*thing{p.root}
	for _, part := range parts {
		last := way[len(way)-1]
		switch {
		case !last.isDir():
			return nil, api.ErrNotDir
		case part == ".":
		case part == "..":
			way = way[:max(1, len(way)-1)]
		case last.names[part] == nil:
			return nil, api.ErrNoEnt
		default:
			way = append(way, last.names[part])
		}
	}
	last := way[len(way)-1]
	if slash && !last.isDir() {
		return nil, api.ErrNotDir
	}
	return last, api.OK
}

// place: the directory in which the last part stands, or would stand, and that part.
func (p *plain) place(parts []string) (*thing, string, api.Errno) {
	if len(parts) == 0 || parts[len(parts)-1] == "." || parts[len(parts)-1] == ".." {
		return nil, "", api.ErrPathEnd
	}
	last := len(parts) - 1
	dir, e := p.lead(parts[:last], true)
	return dir, parts[last], e
}

// asked: what an operation answers, by the chapter's order of refusals.
func (p *plain) asked(o op) outcome {
	switch o.name {
	case "walk":
		return outcome{answer: answer{items: p.items()}}
	case "info": // FreePages is the device's
		return outcome{answer: answer{info: api.Info{Pages: p.super.Pages, Inodes: p.super.Inodes, FreeInodes: p.super.Inodes - len(p.used())}}}
	}
	parts, slash, e := split(o.a)
	if e != api.OK {
		return refusal(e)
	}
	switch o.name {
	case "rename", "link":
		to, toSlash, e := split(o.b)
		if e != api.OK {
			return refusal(e)
		}
		if o.name == "link" {
			return p.link(parts, slash, to, toSlash)
		}
		return p.rename(parts, to, slash || toSlash)
	case "create", "mkdir", "unlink", "rmdir":
		return p.atPlace(o.name, parts, slash)
	}
	x, e := p.lead(parts, slash)
	if e != api.OK {
		return refusal(e)
	}
	return p.atThing(o, x)
}

func (p *plain) atPlace(name string, parts []string, slash bool) outcome {
	if name == "create" && slash {
		return refusal(api.ErrNotDir)
	}
	dir, last, e := p.place(parts)
	if e != api.OK {
		return refusal(e)
	}
	x := dir.names[last]
	switch name {
	case "create":
		return p.make(dir, last, api.KindFile)
	case "mkdir":
		return p.make(dir, last, api.KindDir)
	case "unlink":
		switch {
		case slash && x.isFile():
			return refusal(api.ErrNotDir)
		case x == nil:
			return refusal(api.ErrNoEnt)
		case x.isDir():
			return refusal(api.ErrIsDir)
		}
		return outcome{change: func() { dir.loses(last) }, below: func(v *volume.Volume) api.Errno { return tree.Unlink(v, dir.ino, last) }}
	}
	switch {
	case x == nil:
		return refusal(api.ErrNoEnt)
	case x.isFile():
		return refusal(api.ErrNotDir)
	case len(x.names) > 0:
		return refusal(api.ErrNotEmpty)
	}
	return outcome{change: func() { dir.loses(last) }, below: func(v *volume.Volume) api.Errno { return tree.Rmdir(v, dir.ino, last) }}
}

// loses: a name goes.
func (x *thing) loses(name string) {
	if was := x.names[name]; was != nil {
		was.links--
		delete(x.names, name)
	}
}

func (p *plain) make(dir *thing, name string, kind int) outcome {
	n := p.lowest()
	switch {
	case dir.names[name] != nil:
		return refusal(api.ErrExist)
	case n == 0:
		return refusal(api.ErrNoInodes)
	}
	return outcome{
		change: func() {
			dir.names[name] = &thing{ino: n, kind: kind, links: 1, names: map[string]*thing{}, pages: map[int]bool{}}
		},
		below: func(v *volume.Volume) api.Errno { _, e := tree.Make(v, dir.ino, name, kind); return e },
	}
}

func (p *plain) link(parts []string, slash bool, to []string, toSlash bool) outcome {
	x, e := p.lead(parts, slash)
	if e != api.OK {
		return refusal(e)
	}
	dir, last, e := p.place(to)
	switch {
	case e != api.OK:
		return refusal(e)
	case toSlash:
		return refusal(api.ErrNotDir)
	case x.isDir():
		return refusal(api.ErrIsDir)
	case dir.names[last] != nil:
		return refusal(api.ErrExist)
	case x.links == 100:
		return refusal(api.ErrLinks)
	}
	return outcome{
		change: func() { dir.names[last] = x; x.links++ },
		below:  func(v *volume.Volume) api.Errno { return tree.Link(v, dir.ino, last, x.ino) },
	}
}

func (p *plain) rename(parts, to []string, slash bool) outcome {
	dir, last, e := p.place(parts)
	if e != api.OK {
		return refusal(e)
	}
	todir, tolast, e := p.place(to)
	if e != api.OK {
		return refusal(e)
	}
	a, b := dir.names[last], todir.names[tolast]
	switch {
	case slash && a.isFile():
		return refusal(api.ErrNotDir)
	case a == nil:
		return refusal(api.ErrNoEnt)
	case a == b:
		return outcome{}
	case a.isDir() && a.holds(todir):
		return refusal(api.ErrBelow)
	case a.isDir() && b.isFile():
		return refusal(api.ErrNotDir)
	case a.isFile() && b.isDir():
		return refusal(api.ErrIsDir)
	case b.isDir() && len(b.names) > 0:
		return refusal(api.ErrNotEmpty)
	}
	return outcome{
		change: func() { delete(dir.names, last); todir.loses(tolast); todir.names[tolast] = a },
		below:  func(v *volume.Volume) api.Errno { return tree.Move(v, dir.ino, last, todir.ino, tolast) },
	}
}

func (p *plain) atThing(o op, x *thing) outcome {
	switch {
	case o.name == "stat":
		return outcome{answer: answer{stat: x.stat()}}
	case o.name == "readdir" && x.isFile():
		return refusal(api.ErrNotDir)
	case o.name == "readdir":
		var list []api.Dent
		for _, name := range x.sorted() {
			list = append(list, api.Dent{Name: name, Ino: x.names[name].ino})
		}
		return outcome{answer: answer{list: list}}
	case x.isDir():
		return refusal(api.ErrIsDir)
	case o.n < 0:
		return refusal(api.ErrOffset)
	}
	switch o.name {
	case "read":
		return x.reads(o)
	case "write":
		return x.writes(o)
	}
	return x.cuts(o)
}

func (x *thing) reads(o op) outcome {
	if o.m < 0 || o.m > 4096 {
		return refusal(api.ErrData)
	}
	rest := x.text[min(o.n, len(x.text)):]
	return outcome{answer: answer{text: string(rest[:min(o.m, len(rest))])}}
}

func (x *thing) writes(o op) outcome {
	switch {
	case len(o.b) > 4096:
		return refusal(api.ErrData)
	case o.n > 262144 || o.n+len(o.b) > 262144:
		return refusal(api.ErrFBig)
	case o.b == "":
		return outcome{}
	}
	return outcome{
		change: func() {
			x.grows(o.n + len(o.b))
			copy(x.text[o.n:], o.b)
			for i := range len(o.b) {
				x.pages[(o.n+i)/512] = true
			}
		},
		below: func(v *volume.Volume) api.Errno { return files.Write(v, x.ino, o.n, o.b) },
	}
}

// grows: a file has at least so many bytes.
func (x *thing) grows(size int) {
	x.text = append(x.text, make([]byte, max(0, size-len(x.text)))...)
}

func (x *thing) cuts(o op) outcome {
	switch {
	case o.n > 262144:
		return refusal(api.ErrFBig)
	case o.n == len(x.text):
		return outcome{}
	}
	return outcome{
		change: func() {
			x.grows(o.n)
			x.text = slices.Clone(x.text[:o.n])
			for page := range x.pages {
				if page*512 >= o.n {
					delete(x.pages, page)
				}
			}
		},
		below: func(v *volume.Volume) api.Errno { return files.Truncate(v, x.ino, o.n) },
	}
}
