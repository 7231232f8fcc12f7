package ship_test

import (
	"furrow/api"
)

// wholeBytes: all bytes of a file, by the chapter's words.
func wholeBytes(m api.Member) []byte {
	b := make([]byte, m.Size)
	for _, p := range m.Pieces {
		copy(b[p.Off:], p.Data)
	}
	return b
}

// at: the member that a list has at a path.
func at(list []api.Member, path string) (api.Member, bool) {
	for _, m := range list {
		if m.Path == path {
			return m, true
		}
	}
	return api.Member{}, false
}

// stays: whether a path is kept.
func stays(from, to []api.Member, path string) bool {
	a, inFrom := at(from, path)
	b, inTo := at(to, path)
	switch {
	case !inFrom || !inTo:
		return false
	case a.Kind == 2 && b.Kind == 2, a.Kind == 1 && b.Kind == 1:
		return true
	}
	return a.Kind == 3 && b.Kind == 3 && a.Link == b.Link
}

// modelPlan: the steps from one good list to another, in the chapter's words, written down a second time over whole bytes.
func modelPlan(from, to []api.Member) []api.Step {
	var list []api.Step
	for k := len(from) - 1; k >= 0; k-- {
		if m := from[k]; !stays(from, to, m.Path) {
			s := api.Step{Kind: 6, A: "/" + m.Path}
			if m.Kind == 2 {
				s.Kind = 7
			}
			list = append(list, s)
		}
	}
	for _, m := range to {
		place := "/" + m.Path
		keeps := stays(from, to, m.Path)
		switch {
		case m.Kind == 2 && !keeps:
			list = append(list, api.Step{Kind: 5, A: place})
		case m.Kind == 3 && !keeps:
			list = append(list, api.Step{Kind: 9, A: "/" + m.Link, B: place})
		case m.Kind == 1 && !keeps:
			list = append(list, api.Step{Kind: 4, A: place})
			list = append(list, modelChanges(nil, wholeBytes(m), place)...)
		case m.Kind == 1:
			was, _ := at(from, m.Path)
			list = append(list, modelChanges(wholeBytes(was), wholeBytes(m), place)...)
		}
	}
	return list
}

// modelChanges: the changes from one file's bytes to another's. The file is followed through the writes, byte by byte.
func modelChanges(a, b []byte, place string) []api.Step {
	var list []api.Step
	size := len(a)
	if len(a) > len(b) {
		list = append(list, api.Step{Kind: 12, A: place, N: len(b)})
		size = len(b)
	}
	for k := 0; 512*k < len(b); k++ {
		page := b[512*k:]
		if len(page) > 512 {
			page = page[:512]
		}
		differs := false
		for i, c := range page {
			var was byte
			if 512*k+i < len(a) {
				was = a[512*k+i]
			}
			differs = differs || was != c
		}
		if !differs {
			continue
		}
		list = append(list, api.Step{Kind: 11, A: place, N: 512 * k, B: string(page)})
		if end := 512*k + len(page); end > size {
			size = end
		}
	}
	if size != len(b) {
		list = append(list, api.Step{Kind: 12, A: place, N: len(b)})
	}
	return list
}

// modelRoom: the pages that a list's steps may need, in the chapter's words.
func modelRoom(list []api.Step) int {
	sum := 0
	for _, s := range list {
		switch s.Kind {
		case 4, 5, 6, 7, 9:
			sum++
		case 12:
			sum += 2
		case 11:
			if len(s.B) == 0 || len(s.B) > 4096 || s.N < 0 || s.N > 262144 || s.N+len(s.B) > 262144 {
				continue
			}
			sum += 2
			for page := range 512 {
				if 512*page < s.N+len(s.B) && 512*(page+1) > s.N {
					sum++
				}
			}
		}
	}
	return sum
}
