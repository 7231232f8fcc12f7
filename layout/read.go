package layout

import (
	"bytes"

	"furrow/api"
	"furrow/codec"
)

// refusal: what a reader throws that gives up.
type refusal struct{}

// opened: what read reads; where it gave up, nothing, and why. So no reader hands a refusal up call by call, and whatever is thrown inside, a face answers an error (R1).
func opened[T any](why api.Errno, read func() T) (value T, e api.Errno) {
	defer func() {
		if recover() != nil {
			e = why
		}
	}()
	return read(), api.OK
}

// demand gives a reader up, unless what it met can be.
func demand(can bool) {
	if !can {
		panic(refusal{})
	}
}

func half(b []byte, at int) uint32 {
	v, e := codec.Half(b, at)
	demand(e == api.OK)
	return v
}

func word(b []byte, at int) uint64 {
	w, e := codec.Word(b, at)
	demand(e == api.OK)
	return w
}

// held: what a word holds that is sealed for the address.
func held(at int, w uint64) uint32 {
	v, e := codec.Unseal(at, w)
	demand(e == api.OK)
	return v
}

// readSuper takes the numbers, and then just the line that they make: that asks for the letters, the zeros and the sum in one.
func readSuper(l api.Line) api.Super {
	s := api.Super{
		Pages:  int(half(l[:], pagesAt)),
		Inodes: int(half(l[:], inodesAt)),
		Cores:  int(half(l[:], coresAt)),
	}
	demand(goodSuper(s))
	demand(superLine(s) == l)
	return s
}

func readSlot(ino int, w [3]uint64) api.Slot {
	demand(goodInode(ino))
	at := SlotAt(ino)
	meta := held(at, w[0])
	if meta == 0 {
		return api.Slot{}
	}
	s := api.Slot{Kind: int(meta % kindStep), Links: int(meta / kindStep)}
	s.Tail = int(held(at+2*api.WordSize, w[2]))
	if s.Tail != 0 { // an empty log's head may be any word
		s.Head = int(held(at+api.WordSize, w[1]))
	}
	demand(goodSlot(s))
	return s
}

func readHeader(page int, w [2]uint64) api.Header {
	demand(dataPage(page))
	at := page * api.PageSize
	h := api.Header{Next: int(held(at, w[0])), Owner: int(held(at+api.WordSize, w[1]))}
	demand(goodHeader(h))
	return h
}

// readEntry takes the fields, and then just the line that they make, as readSuper does: what the kind hasn't must be zero.
func readEntry(l api.Line) api.Entry {
	e := ofItsKind(api.Entry{
		Kind:  int(l[0]),
		Seq:   word(l[:], seqAt),
		Off:   int(half(l[:], offAt)),
		Count: int(half(l[:], countAt)),
		Page:  int(half(l[:], pageAt)),
		Size:  int(half(l[:], sizeAt)),
		Ino:   int(half(l[:], inoAt)),
		Name:  readName(l),
	})
	demand(goodEntry(e))
	demand(entryLine(e) == l)
	return e
}

func readName(l api.Line) string {
	n := int(l[nameSizeAt])
	demand(n <= api.MaxName)
	return string(l[nameAt : nameAt+n])
}

func readUndos(page []byte) []api.Undo {
	demand(len(page) == api.PageSize)
	n := held(api.JournalAt, word(page, 0))
	demand(n <= api.MaxUndo)
	if n == 0 {
		return nil
	}
	records := page[recordsAt : recordsAt+int(n)*recordSize]
	demand(held(api.JournalAt+api.WordSize, word(page, api.WordSize)) == codec.Sum(records))
	list := make([]api.Undo, n)
	for i := range list {
		at := i * recordSize
		list[i] = api.Undo{At: int(word(records, at)), Old: word(records, at+api.WordSize)}
	}
	demand(goodUndos(list))
	return list
}

// readSaved takes the numbers, and then just the bytes that they make, as readSuper does.
func readSaved(b []byte) api.Saved {
	n := half(b, spanCountAt)
	demand(n <= api.MaxSpans) // ahead of the room that so many spans take
	r := api.Saved{Stamp: half(b, stampAt), Spans: make([]api.Span, n)}
	for i := range r.Spans {
		span := half(b, savedSize(i))
		r.Spans[i] = api.Span{From: int(uint16(span)), Count: int(span >> (halfBits / 2))}
	}
	demand(goodSaved(r))
	size := savedSize(int(n))
	demand(len(b) >= size && bytes.Equal(b[:size], savedBytes(r)[:size]))
	return r
}
