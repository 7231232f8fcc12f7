package layout

import (
	"furrow/api"
	"furrow/codec"
)

const (
	halfSize = 4
	halfBits = 32
	supers   = 2 // lines at the device's beginning that are a superblock
)

// Where a superblock's numbers stand in its line.
const (
	superMark = "FURROW01"
	pagesAt   = 8
	inodesAt  = 12
	coresAt   = 16
)

// kindStep: what a link counts in a slot's word meta: the kind stands below it.
const kindStep = 256

// Where an entry's fields stand in its line, behind its kind.
const (
	nameSizeAt = 1
	seqAt      = 8
	offAt      = 16
	inoAt      = 16 // no kind has both
	countAt    = 20
	pageAt     = 24
	sizeAt     = 28
	nameAt     = 32
)

// Where the journal's records stand in its page.
const (
	recordsAt  = 64
	recordSize = 16
)

// Where the saved record's numbers stand in it.
const (
	savedMark   = "FURROWSV"
	stampAt     = 8
	spanCountAt = 16
	savedSumAt  = 20
	spansAt     = 24
	spanSize    = 4
)

// putHalf lays a number's lowest four bytes from the place at on.
func putHalf(b []byte, at int, v uint32) { copy(b[at:], codec.Bytes(uint64(v))[:halfSize]) }

func superLine(s api.Super) api.Line {
	var l api.Line
	copy(l[:], superMark)
	putHalf(l[:], pagesAt, uint32(s.Pages))
	putHalf(l[:], inodesAt, uint32(s.Inodes))
	putHalf(l[:], coresAt, uint32(s.Cores))
	return codec.Close(l)
}

func slotWords(ino int, s api.Slot) [3]uint64 {
	at := SlotAt(ino)
	return [3]uint64{
		codec.Seal(at, uint32(s.Kind+s.Links*kindStep)),
		codec.Seal(at+api.WordSize, uint32(s.Head)),
		codec.Seal(at+2*api.WordSize, uint32(s.Tail)),
	}
}

func headerWords(page int, h api.Header) [2]uint64 {
	at := page * api.PageSize
	return [2]uint64{
		codec.Seal(at, uint32(h.Next)),
		codec.Seal(at+api.WordSize, uint32(h.Owner)),
	}
}

// entryLine: the line of a good entry. Off and Ino are added for their one place: the one that the kind hasn't is 0.
func entryLine(e api.Entry) api.Line {
	var l api.Line
	l[0] = byte(e.Kind)
	l[nameSizeAt] = byte(len(e.Name))
	copy(l[seqAt:], codec.Bytes(e.Seq))
	putHalf(l[:], offAt, uint32(e.Off+e.Ino))
	putHalf(l[:], countAt, uint32(e.Count))
	putHalf(l[:], pageAt, uint32(e.Page))
	putHalf(l[:], sizeAt, uint32(e.Size))
	copy(l[nameAt:], e.Name)
	return codec.Close(l)
}

func undoBytes(list []api.Undo) []byte {
	var words []uint64
	for _, u := range list {
		words = append(words, uint64(u.At), u.Old)
	}
	records := codec.Bytes(words...)
	b := make([]byte, recordsAt+len(records))
	copy(b, codec.Bytes(
		codec.Seal(api.JournalAt, uint32(len(list))),
		codec.Seal(api.JournalAt+api.WordSize, codec.Sum(records)),
	))
	copy(b[recordsAt:], records)
	return b
}

// savedSize: the bytes of a record of n spans, without what makes them whole words.
func savedSize(n int) int { return spansAt + n*spanSize }

func savedBytes(r api.Saved) []byte {
	n := len(r.Spans)
	b := make([]byte, savedSize(n+n%2))
	copy(b, savedMark)
	putHalf(b, stampAt, r.Stamp)
	putHalf(b, spanCountAt, uint32(n))
	for i, s := range r.Spans {
		putHalf(b, savedSize(i), uint32(s.From)|uint32(s.Count)<<(halfBits/2))
	}
	sum := codec.SumOn(codec.Sum(b[:savedSumAt]), b[spansAt:savedSize(n)])
	putHalf(b, savedSumAt, sum)
	return b
}
