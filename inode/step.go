package inode

import (
	"furrow/api"
	"furrow/layout"
)

// step: what an entry does. on does it; false: the log can't have it there, and nothing has changed.
type step interface {
	on(m *meaning) bool
}

type write struct {
	run  api.Run
	size int
}

type resize struct {
	size int
}

type add struct {
	dent api.Dent
}

type drop struct {
	name string
}

// stepOf: what a good entry does; false of one that isn't good. Which place it has in its log doesn't matter here.
func stepOf(e api.Entry) (step, bool) {
	e.Seq = 1
	if _, bad := layout.PackEntry(e); bad != api.OK {
		return nil, false
	}
	switch e.Kind {
	case api.EntWrite:
		return write{api.Run{Off: e.Off, Page: e.Page, Count: e.Count}, e.Size}, true
	case api.EntSize:
		return resize{e.Size}, true
	case api.EntAdd:
		return add{api.Dent{Name: e.Name, Ino: e.Ino}}, true
	}
	return drop{e.Name}, true
}

func (w write) on(m *meaning) bool {
	if m.kind != api.KindFile {
		return false
	}
	for i := range w.run.Count {
		m.pages.Set(w.run.Off+i, w.run.Page+i)
	}
	m.setSize(w.size)
	return true
}

func (r resize) on(m *meaning) bool {
	if m.kind != api.KindFile {
		return false
	}
	m.setSize(r.size)
	return true
}

func (a add) on(m *meaning) bool {
	return m.kind == api.KindDir && m.names.Put(here, a.dent.Name, a.dent.Ino) == api.OK
}

func (d drop) on(m *meaning) bool {
	if m.kind != api.KindDir {
		return false
	}
	_, e := m.names.Drop(here, d.name)
	return e == api.OK
}
