package mount_test

import (
	"math/big"

	"furrow/api"
	"furrow/codec"
	"furrow/layout"
	"furrow/mount"
)

func (d *disk) data(page int) bool { return d.sh.Data <= page && page < d.sh.Pages }

// holding: what a sealed word holds, -1 if it holds nothing.
func (d *disk) holding(at int) int {
	v, e := codec.Unseal(at, d.word(at))
	if e != api.OK {
		return -1
	}
	return int(v)
}

// pagesOver: how many pages of an inode's log 6.6 goes over in a disk without a journal, the one with a breach counted; 0 where the slot is broken or free, or the log empty.
func (d *disk) pagesOver(ino int) int {
	s, e := d.opened(ino)
	last := (s.Tail - 1) / 512
	if e != api.OK || s.Tail == 0 || !d.data(s.Head) || !d.data(last) {
		return 0
	}
	var walked [api.MaxPages]bool
	seq := uint64(0)
	for n, page := 1, s.Head; ; n++ {
		next := d.holding(512 * page)
		if d.holding(512*page+8) != ino || page != last && next != 0 && !d.data(next) {
			return n
		}
		for at := 512*page + 64; at < 512*(page+1) && (page != last || at < s.Tail); at += 64 {
			seq++
			if !d.entry(at, seq) {
				return n
			}
		}
		walked[page] = true
		if page == last || next == 0 || walked[next] {
			return n
		}
		page = next
	}
}

// entry: whether an entry of that place in its log stands at an address.
func (d *disk) entry(at int, seq uint64) bool {
	var l api.Line
	copy(l[:], d.b[at:])
	e, no := layout.OpenEntry(l)
	switch {
	case no != api.OK || e.Seq != seq:
		return false
	case e.Kind == api.EntWrite:
		return d.data(e.Page) && d.data(e.Page+e.Count-1)
	}
	return e.Ino <= d.sh.Inodes
}

// pieces: how many pieces a whole mount of the disk has.
func pieces(d *disk) int {
	n := 0
	for ino := 1; ino <= d.sh.Inodes; ino++ {
		n += 1 + overlaid(d).pagesOver(ino)
	}
	return n
}

// model: 12.2 to 12.4, in their words: of each worker the inode that it holds, and how many pages are still to be gone over.
type model struct {
	over    *disk
	workers [][2]int
	cursor  int
	steps   int
}

func modelOf(d *disk, workers int) *model {
	return &model{over: overlaid(d), workers: make([][2]int, workers), cursor: 1}
}

// meant: the worker from 0 to workers - 1 that differs from w by a multiple of workers.
func (m *model) meant(w int) int {
	var left big.Int
	return int(left.Mod(big.NewInt(int64(w)), big.NewInt(int64(len(m.workers)))).Int64())
}

func (m *model) step(w int) bool {
	k := &m.workers[m.meant(w)]
	switch {
	case k[0] > 0:
		k[1]--
	case m.cursor <= m.over.sh.Inodes:
		*k = [2]int{m.cursor, m.over.pagesOver(m.cursor)}
		m.cursor++
	default:
		return false
	}
	if k[1] == 0 {
		k[0] = 0
	}
	m.steps++
	return true
}

func (m *model) holds(w int) int { return m.workers[m.meant(w)][0] }

func (m *model) done() bool {
	for _, k := range m.workers {
		if k[0] > 0 {
			return false
		}
	}
	return m.cursor > m.over.sh.Inodes
}

// asModel: whether a machine tells of itself what the model does.
func (m *model) asModel(x *mount.Machine) bool {
	for w := range m.workers {
		if x.Holds(w) != m.holds(w) {
			return false
		}
	}
	return x.Steps() == m.steps && x.Done() == m.done()
}
