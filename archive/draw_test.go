package archive_test

import (
	"math"
	"math/rand"
	"slices"
	"strings"

	"furrow/api"
)

// oddPaths: texts that are no member's path.
var oddPaths = []string{
	"", "/", "/d", "d/", "d//f", "//", ".", "..", "./d", "../d", "d/.", "d/..", "d/./f", "a/../b", "\x00", "d\x00", "d/\x00f",
	strings.Repeat("a", 29), "d/" + strings.Repeat("a", 29), strings.Repeat("a", 29) + "/d", strings.Repeat("a", 200), strings.Repeat("a", 5000),
	strings.Repeat("n/", 100), strings.Repeat("n/", 99) + "nn", strings.Repeat("/n", 100), strings.Repeat("n/", 3000) + "n",
}

// wild: numbers that no field is.
var wild = []int{-1, -512, 4, 255, 1<<31 - 1, 1 << 31, 1<<32 - 1, 1 << 32, 1<<32 + 1, 1<<32 + 512, -1 << 32, 1 << 62, math.MaxInt, math.MaxInt - 511, math.MinInt, math.MinInt + 512}

// drawnName: one of few names, those among them whose bytes stand next to the slash's.
func drawnName(r *rand.Rand) string {
	if r.Intn(10) == 0 {
		return pick(r, "...", "\x01", "\xff", "日", strings.Repeat("n", 28), " ", "-", "0", "\n")
	}
	return pick(r, "a", "a", "b", "c", "d") + pick(r, "", "", "", ".", "-", "0", "\x01", "a", ".a")
}

// drawnBytes: a page's bytes that aren't all zeros.
func drawnBytes(r *rand.Rand, many int) string {
	b := make([]byte, many)
	switch r.Intn(4) {
	case 0:
		b[0] = 1
	case 1:
		b[many-1] = 255
	case 2:
		b[r.Intn(many)] = byte(1 + r.Intn(255))
	default:
		r.Read(b)
		b[r.Intn(many)] = 7
	}
	return string(b)
}

// drawnFile: a file of a few pages, of which some are holes.
func drawnFile(r *rand.Rand, path string, pages int) api.Member {
	m := file(path, pick(r, 0, 1, 511, 512, 513, 600, 1024, r.Intn(512*pages), 512*pages, api.MaxSize, api.MaxSize-1))
	holes := r.Intn(3)
	last := (m.Size - 1) / 512 * 512
	for off := 0; off < m.Size && len(m.Pieces) < pages; off += 512 {
		if off > 4096 && off < last {
			off = last
		}
		if r.Intn(3) >= holes {
			m.Pieces = append(m.Pieces, piece(off, drawnBytes(r, min(512, m.Size-off))))
		}
	}
	return m
}

// drawnGood: a good list of at most so many members, whose files have at most so many pages.
func drawnGood(r *rand.Rand, many, pages int) []api.Member {
	paths, dirs := []string{}, []string{""}
	for range r.Intn(many + 1) {
		p := pick(r, dirs...) + drawnName(r)
		if slices.Contains(paths, p) || len(p) > 199 {
			continue
		}
		if paths = append(paths, p); r.Intn(3) == 0 && len(p) < 190 {
			dirs = append(dirs, p+"/")
		}
	}
	slices.SortFunc(paths, func(a, b string) int {
		if isAhead(a, b) {
			return -1
		}
		return 1
	})
	var list []api.Member
	var files []string
	for _, p := range paths {
		switch {
		case slices.Contains(dirs, p+"/"):
			list = append(list, dir(p))
		case len(files) > 0 && r.Intn(3) == 0:
			list = append(list, link(p, pick(r, files...)))
		default:
			list = append(list, drawnFile(r, p, pages))
			files = append(files, p)
		}
	}
	return list
}

// copied: a list in memory of its own.
func copied(list []api.Member) []api.Member {
	l := slices.Clone(list)
	for k := range l {
		l[k].Pieces = slices.Clone(l[k].Pieces)
	}
	return l
}

// spoilt: the list with something changed. It may be good still.
func spoilt(r *rand.Rand, list []api.Member) []api.Member {
	l := copied(list)
	if len(l) == 0 {
		return []api.Member{{Kind: r.Intn(5), Path: pick(r, oddPaths...)}}
	}
	k, other := r.Intn(len(l)), r.Intn(len(l))
	switch r.Intn(10) {
	case 0:
		l[k].Kind = pick(r, 0, 1, 2, 3, 4, pick(r, wild...))
	case 1:
		l[k].Path = pick(r, l[other].Path, pick(r, oddPaths...), l[k].Path+"/a", drawnName(r), l[k].Path+pick(r, "", ".", "\x01", "0"))
	case 2:
		l[k].Link = pick(r, "", l[other].Path, l[other].Path, pick(r, oddPaths...), drawnName(r))
	case 3:
		l[k].Size = pick(r, 0, 1, 512, 600, l[k].Size+1, l[k].Size-1, api.MaxSize, api.MaxSize+1, pick(r, wild...))
	case 4:
		l[k], l[other] = l[other], l[k]
	case 5:
		l = slices.Delete(l, k, k+1)
	case 6:
		l = slices.Insert(l, other, l[k])
	case 7:
		l[k].Pieces = l[other].Pieces
	case 8:
		l[k].Path, l[other].Path = l[other].Path, l[k].Path
	default:
		l[k].Pieces = spoiltPieces(r, l[k].Pieces)
	}
	return l
}

func spoiltPieces(r *rand.Rand, list []api.Piece) []api.Piece {
	if len(list) == 0 {
		return []api.Piece{piece(pick(r, 0, 512, pick(r, wild...)), drawnBytes(r, pick(r, 1, 88, 512)))}
	}
	k, other := r.Intn(len(list)), r.Intn(len(list))
	switch r.Intn(7) {
	case 0:
		list[k].Off = pick(r, list[k].Off+512, list[k].Off+1, 0, list[other].Off, pick(r, wild...))
	case 1:
		list[k].Data = list[k].Data[:r.Intn(max(1, len(list[k].Data)))]
	case 2:
		list[k].Data += pick(r, "\x00", "x", "xy")
	case 3:
		list[k].Data = strings.Repeat("\x00", max(1, len(list[k].Data))-1) + pick(r, "\x00", "\x01")
	case 4:
		list[k], list[other] = list[other], list[k]
	case 5:
		return slices.Delete(list, k, k+1)
	default:
		return slices.Insert(list, other, list[k])
	}
	return list
}
