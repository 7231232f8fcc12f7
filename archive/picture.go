package archive

import (
	"furrow/api"
	"furrow/codec"
)

const (
	mark     = "FURROWAR"
	countAt  = len(mark) // where the number of members stands in the first line
	halfSize = 4
)

// picture: the bytes of a good list.
func picture(list []api.Member) []byte {
	first := firstLine(len(list))
	b := first[:]
	for _, m := range list {
		b = append(b, memberBytes(m)...)
	}
	return b
}

// firstLine: the line ahead of so many members.
func firstLine(members int) api.Line {
	var l api.Line
	copy(l[:], mark)
	copy(l[countAt:], halves(members))
	return codec.Close(l)
}

func memberBytes(m api.Member) []byte {
	b := halves(m.Kind, len(m.Path), len(m.Link), m.Size, len(m.Pieces))
	b = append(b, m.Path...)
	b = append(b, m.Link...)
	for _, p := range m.Pieces {
		b = append(b, halves(p.Off, len(p.Data))...)
		b = append(b, p.Data...)
	}
	return append(b, halves(int(codec.Sum(b)))...)
}

// halves: the numbers as halves, one behind the other.
func halves(numbers ...int) []byte {
	var b []byte
	for _, n := range numbers {
		b = append(b, codec.Bytes(uint64(n))[:halfSize]...)
	}
	return b
}
