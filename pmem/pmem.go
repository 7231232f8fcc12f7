// Package pmem is layer 1: the persistent memory: see DOC.md and doc/01-pmem.md.
package pmem

import (
	"slices"

	"furrow/api"
)

const (
	maxSize   = api.MaxPages * api.PageSize
	smallRoom = 64 // below so many words a map's room isn't worth giving back
)

// Device: a persistent memory. Everybody who holds it sees one memory. (A Device that New or Load didn't give is never used.)
type Device struct {
	old    []byte           // the durable bytes
	doubts map[int]*pending // by the word's address: the words that have news, and no others
	room   int              // the most words that this map has held at a Fence
	steps  int
	armed  bool
	left   int // steps left, if armed
}

// pending: what a word in doubt was given since it was durable. It is never without news.
type pending struct {
	news []uint64
	mark int // how many of the news the next Fence makes durable
}

// New: a device of size bytes, all of them 0 and durable. ErrSize: size is no multiple of PageSize from PageSize to MaxPages pages.
func New(size int) (*Device, api.Errno) {
	if !goodSize(size) {
		return nil, api.ErrSize
	}
	return over(make([]byte, size)), api.OK
}

// Load: a device whose durable bytes are image's. ErrSize as in New.
func Load(image []byte) (*Device, api.Errno) {
	if !goodSize(len(image)) {
		return nil, api.ErrSize
	}
	return over(copied(image)), api.OK
}

// Size: how many bytes it has.
func (d *Device) Size() int { return len(d.old) }

// Word: the word at an address, as it was stored last. ErrBounds, ErrAlign.
func (d *Device) Word(at int) (uint64, api.Errno) {
	if e := d.checkWord(at); e != api.OK {
		return 0, e
	}
	if p := d.doubts[at]; p != nil {
		return p.now(), api.OK
	}
	return gather(d.old[at:]), api.OK
}

// Read: n bytes from an address on, as they were stored last. ErrBounds.
func (d *Device) Read(at, n int) ([]byte, api.Errno) {
	if !d.within(at, n) {
		return nil, api.ErrBounds
	}
	b := copied(d.old[at : at+n])
	for word := at - at%api.WordSize; word < at+n; word += api.WordSize {
		if p := d.doubts[word]; p != nil {
			lay(b, word-at, p.now())
		}
	}
	return b, api.OK
}

// Store: one step: the word at an address is v. ErrBounds, ErrAlign, ErrDead.
func (d *Device) Store(at int, v uint64) api.Errno {
	if e := d.checkWord(at); e != api.OK {
		return e
	}
	if e := d.step(); e != api.OK {
		return e
	}
	p := d.doubts[at]
	if p == nil {
		p = &pending{}
		d.doubts[at] = p
	}
	p.news = append(p.news, v)
	return api.OK
}

// Write: one Store a word, rising. ErrBounds, ErrAlign; ErrDead behind the words that could still be stored.
func (d *Device) Write(at int, b []byte) api.Errno {
	if !d.within(at, len(b)) {
		return api.ErrBounds
	}
	if at%api.WordSize != 0 || len(b)%api.WordSize != 0 {
		return api.ErrAlign
	}
	for i := 0; i < len(b); i += api.WordSize {
		if e := d.Store(at+i, gather(b[i:])); e != api.OK {
			return e
		}
	}
	return api.OK
}

// Flush: one step: what the words of the line of an address hold now will be durable behind the next Fence. ErrBounds, ErrDead.
func (d *Device) Flush(at int) api.Errno {
	if !d.has(at) {
		return api.ErrBounds
	}
	if e := d.step(); e != api.OK {
		return e
	}
	line := at - at%api.LineSize
	for word := line; word < line+api.LineSize; word += api.WordSize {
		if p := d.doubts[word]; p != nil {
			p.mark = len(p.news)
		}
	}
	return api.OK
}

// FlushAll: one Flush a line that n bytes from an address on touch, rising. ErrBounds, ErrDead.
func (d *Device) FlushAll(at, n int) api.Errno {
	if !d.within(at, n) {
		return api.ErrBounds
	}
	if n == 0 { // no byte lies in any line, although the address does
		return api.OK
	}
	for line := at - at%api.LineSize; line < at+n; line += api.LineSize {
		if e := d.Flush(line); e != api.OK {
			return e
		}
	}
	return api.OK
}

// Fence: one step: what was flushed is durable. ErrDead.
func (d *Device) Fence() api.Errno {
	if e := d.step(); e != api.OK {
		return e
	}
	d.room = max(d.room, len(d.doubts))
	for at, p := range d.doubts {
		if p.mark == 0 {
			continue
		}
		lay(d.old, at, p.news[p.mark-1])
		p.news = slices.Delete(p.news, 0, p.mark)
		p.mark = 0
		if len(p.news) == 0 {
			delete(d.doubts, at)
		}
	}
	d.shrink()
	return api.OK
}

// Steps: how many steps were done.
func (d *Device) Steps() int { return d.steps }

// Arm: behind left further steps the device is dead. ErrArg: left is below 0; ErrDead.
func (d *Device) Arm(left int) api.Errno {
	if left < 0 {
		return api.ErrArg
	}
	if d.Dead() {
		return api.ErrDead
	}
	d.armed, d.left = true, left
	return api.OK
}

// Dead: whether the next step would be refused.
func (d *Device) Dead() bool { return d.armed && d.left == 0 }

// Doubts: the words that aren't wholly durable, rising.
func (d *Device) Doubts() []api.Doubt {
	var list []api.Doubt
	for _, at := range d.rising() {
		list = append(list, api.Doubt{At: at, Old: gather(d.old[at:]), News: copied(d.doubts[at].news)})
	}
	return list
}

// Crash: the bytes that a loss of power leaves: of the k-th doubt the choice c mod (len(News)+1) of the k-th number c: 0 its Old, j the j-th of its News; where the list is at its end, 0. The device itself isn't changed.
func (d *Device) Crash(choices []int) []byte {
	b := copied(d.old)
	for k, at := range d.rising() {
		if k == len(choices) { // all doubts from here on keep their old values
			break
		}
		news := d.doubts[at].news
		if r := remainder(choices[k], len(news)+1); r > 0 {
			lay(b, at, news[r-1])
		}
	}
	return b
}

// View: all bytes, as they were stored last.
func (d *Device) View() []byte {
	b := copied(d.old)
	for at, p := range d.doubts {
		lay(b, at, p.now())
	}
	return b
}
