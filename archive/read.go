package archive

import (
	"iter"

	"furrow/api"
	"furrow/codec"
)

// refusal: what a reader throws that gives up.
type refusal struct{}

// demand gives a reader up, unless what it met can be.
func demand(can bool) {
	if !can {
		panic(refusal{})
	}
}

// readList: the good list whose bytes these are; it gives up, if there is none.
func readList(b []byte) []api.Member {
	r := &reader{rest: b}
	l := newLedger()
	var list []api.Member
	for m := range r.members(r.count()) {
		demand(l.takes(m))
		list = append(list, m)
	}
	demand(len(r.rest) == 0)
	return list
}

// reader: the bytes of an archive that are still to be read.
type reader struct {
	rest []byte
}

// count reads the first line: how many members are to follow. The line that the number makes must be this one: that asks for the letters, the zeros and the check in one.
func (r *reader) count() int {
	var line api.Line
	copy(line[:], r.take(api.LineSize))
	n, e := codec.Half(line[:], countAt)
	demand(e == api.OK && line == firstLine(int(n)))
	return int(n)
}

// members: the next n members. It stops at the first that can't be read: the reader gives up then.
func (r *reader) members(n int) iter.Seq[api.Member] {
	return func(yield func(api.Member) bool) {
		for range n {
			if !yield(r.member()) {
				return
			}
		}
	}
}

func (r *reader) member() api.Member {
	from := r.rest
	kind, path, link, size, pieces := r.half(), r.half(), r.half(), r.half(), r.half()
	m := api.Member{Kind: kind, Path: r.text(path), Link: r.text(link), Size: size}
	for range pieces {
		off, many := r.half(), r.half()
		m.Pieces = append(m.Pieces, api.Piece{Off: off, Data: r.text(many)})
	}
	sum := codec.Sum(from[:len(from)-len(r.rest)])
	demand(r.half() == int(sum))
	return m
}

func (r *reader) half() int {
	v, e := codec.Half(r.rest, 0)
	demand(e == api.OK)
	r.take(halfSize)
	return int(v)
}

func (r *reader) text(many int) string { return string(r.take(many)) }

// take: the next bytes, so many of them.
func (r *reader) take(many int) []byte {
	demand(many <= len(r.rest))
	taken := r.rest[:many]
	r.rest = r.rest[many:]
	return taken
}
