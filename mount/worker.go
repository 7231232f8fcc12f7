package mount

import (
	"furrow/api"
	"furrow/inode"
)

// worker: the log of the inode that it holds (nil, if it holds none), and what it found so far. Nothing of it is another worker's.
type worker struct {
	log   *trail
	found finds
}

func (w worker) holds() bool { return w.log != nil }

// number: which worker is meant by any int. A remainder has the sign of w, so it is brought up by their number.
func (m *Machine) number(w int) int {
	n := len(m.workers)
	return (w%n + n) % n
}

func (m *Machine) allTaken() bool { return m.cursor > m.over.shape.Inodes }

func (m *Machine) hasPiece(i int) bool { return m.workers[i].holds() || !m.allTaken() }

// piece does the next piece of a worker that has one.
func (m *Machine) piece(i int) {
	w := &m.workers[i]
	m.steps++
	if w.holds() {
		w.goOn(m.over)
		return
	}
	ino := m.cursor
	m.cursor++
	w.take(m.over, ino)
}

// take looks at an inode's slot, and holds the inode if there is a log to go over.
func (w *worker) take(o overlay, ino int) {
	slot, e := o.slot(ino)
	switch {
	case e != api.OK:
		w.found.breach(e, ino)
	case slot.Kind == api.KindFree:
	case slot.Tail == 0:
		w.means(trail{ino: ino, slot: slot})
	default:
		w.log = newTrail(ino, slot)
	}
}

// goOn goes over the next page of the log that it holds, and lets it go behind the last one or at a breach.
func (w *worker) goOn(o overlay) {
	log := w.log
	last, e := log.goOver(o)
	switch {
	case e != api.OK:
		w.found.breach(e, log.ino)
		w.log = nil
	case last:
		w.means(*log)
		w.log = nil
	}
}

// means puts down what a log says that has been gone over to its end.
func (w *worker) means(t trail) {
	n, e := inode.Replay(t.slot.Kind, t.entries)
	if e != api.OK {
		w.found.breach(e, t.ino)
		return
	}
	n.Ino, n.Links, n.Head, n.Tail, n.Log = t.ino, t.slot.Links, t.slot.Head, t.slot.Tail, t.pages
	w.found.node(n)
}
