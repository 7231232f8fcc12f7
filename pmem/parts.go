package pmem

import (
	"maps"
	"slices"

	"furrow/api"
)

func goodSize(size int) bool {
	return size >= api.PageSize && size <= maxSize && size%api.PageSize == 0
}

// over: a device whose durable bytes are these themselves, so they must be nobody else's.
func over(old []byte) *Device {
	return &Device{old: old, doubts: map[int]*pending{}}
}

func (d *Device) has(at int) bool { return at >= 0 && at < len(d.old) }

// within subtracts where it could add: a sum of great numbers would wrap round.
func (d *Device) within(at, n int) bool {
	return at >= 0 && n >= 0 && at <= len(d.old) && n <= len(d.old)-at
}

func (d *Device) checkWord(at int) api.Errno {
	if !d.has(at) {
		return api.ErrBounds
	}
	if at%api.WordSize != 0 {
		return api.ErrAlign
	}
	return api.OK
}

// step: asked for by each Store, Flush and Fence when nothing else can refuse it, and ahead of what it does.
func (d *Device) step() api.Errno {
	if d.Dead() {
		return api.ErrDead
	}
	if d.armed {
		d.left--
	}
	d.steps++
	return api.OK
}

// rising: the addresses of the words in doubt, sorted, so that the map's order is never seen.
func (d *Device) rising() []int { return slices.Sorted(maps.Keys(d.doubts)) }

// shrink moves the doubts to a smaller map when few are left: a map keeps the room it once had, and a Fence would go over all of it ever after.
func (d *Device) shrink() {
	if d.room < smallRoom || len(d.doubts) > d.room/4 {
		return
	}
	small := make(map[int]*pending, len(d.doubts))
	maps.Copy(small, d.doubts)
	d.doubts, d.room = small, len(small)
}

// now: the value that was stored last.
func (p *pending) now() uint64 { return p.news[len(p.news)-1] }

// gather: the word that the first 8 bytes of b hold.
func gather(b []byte) uint64 {
	var v uint64
	for i := range api.WordSize {
		v |= uint64(b[i]) << (8 * i)
	}
	return v
}

// lay puts a word's bytes into b from place at on. At either end of b the word may stand out: only the bytes within are put.
func lay(b []byte, at int, v uint64) {
	var word [api.WordSize]byte
	for i := range word {
		word[i] = byte(v >> (8 * i))
	}
	if at < 0 {
		copy(b, word[-at:])
		return
	}
	copy(b[at:], word[:])
}

// copied: a list of its own, without spare room.
func copied[T any](list []T) []T {
	own := make([]T, len(list))
	copy(own, list)
	return own
}

// remainder: the number from 0 to m - 1 that c leaves, for a negative c too.
func remainder(c, m int) int {
	r := c % m
	if r < 0 {
		r += m
	}
	return r
}
