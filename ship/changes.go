package ship

import (
	"cmp"
	"slices"
	"strings"

	"furrow/api"
)

const zero = "\x00"

// changes: the steps by which the one file gets the bytes and the size of the other.
func changes(from, to api.Member) []api.Step {
	at := placeOf(to.Path)
	sized := api.Step{Kind: api.StepTruncate, A: at, N: to.Size}
	var list []api.Step
	if from.Size > to.Size {
		list = append(list, sized)
	}
	size := min(from.Size, to.Size) // what the file has by then
	for _, off := range offsOf(from, to) {
		n := min(api.PageSize, to.Size-off)
		page := bytesOf(to, off, n)
		if page != bytesOf(from, off, n) {
			list = append(list, api.Step{Kind: api.StepWrite, A: at, N: off, B: page})
			size = max(size, off+n)
		}
	}
	if size != to.Size {
		list = append(list, sized)
	}
	return list
}

// offsOf: where those pages of the file to begin that can differ, rising. Where neither file has a piece both have zeros: so what a hole costs doesn't hang on its size.
func offsOf(from, to api.Member) []int {
	var offs []int
	for _, p := range slices.Concat(from.Pieces, to.Pieces) {
		if p.Off < to.Size {
			offs = append(offs, p.Off)
		}
	}
	slices.Sort(offs)
	return slices.Compact(offs)
}

// bytesOf: the first n bytes of a file's page that begins at off; where the file has no byte, a 0 counts.
func bytesOf(m api.Member, off, n int) string {
	at, found := slices.BinarySearchFunc(m.Pieces, off, func(p api.Piece, off int) int { return cmp.Compare(p.Off, off) })
	if !found {
		return strings.Repeat(zero, n)
	}
	data := m.Pieces[at].Data
	if len(data) >= n {
		return data[:n]
	}
	return data + strings.Repeat(zero, n-len(data))
}
