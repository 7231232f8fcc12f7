package extents

import (
	"math/bits"

	"furrow/api"
)

const wordBits = 64

// marks: a bitmap, as a value. Its methods aren't exported, so that what embeds it shows no more than the document lists.
type marks struct {
	length int
	words  [api.MaxPages / wordBits]uint64
}

func (m *marks) has(i int) bool {
	return 0 <= i && i < m.length && m.words[i/wordBits]&bit(i) != 0
}

// set: whether this is what set it.
func (m *marks) set(i int) bool {
	if i < 0 || i >= m.length || m.has(i) {
		return false
	}
	m.words[i/wordBits] |= bit(i)
	return true
}

// unset: whether it was set.
func (m *marks) unset(i int) bool {
	if !m.has(i) {
		return false
	}
	m.words[i/wordBits] &^= bit(i)
	return true
}

func (m *marks) count() int {
	n := 0
	for i := range len(m.words) {
		n += bits.OnesCount64(m.words[i])
	}
	return n
}

// spans: the marks from lo up to hi that are set, or those that aren't, longest and rising.
func (m *marks) spans(lo, hi int, set bool) []api.Span {
	// Both are brought into the bitmap first: their difference may be no int else.
	lo, hi = m.within(lo), m.within(hi)
	var list []api.Span
	for i := range hi - lo {
		if m.has(lo+i) == set {
			list = withPage(list, lo+i)
		}
	}
	return list
}

func (m *marks) within(i int) int { return max(0, min(i, m.length)) }

func bit(i int) uint64 { return 1 << (i % wordBits) }

// withPage: the list with a page more, in its last span if it is the page just behind it.
func withPage(list []api.Span, page int) []api.Span {
	if n := len(list); n > 0 && list[n-1].From+list[n-1].Count == page {
		list[n-1].Count++
		return list
	}
	return append(list, api.Span{From: page, Count: 1})
}
