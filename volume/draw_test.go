package volume_test

import (
	"math/rand"
	"slices"
	"strconv"

	"furrow/api"
)

// Edits that are drawn, such as a state may take, and such as it may not.

func ofKind(st api.State, kind int) []api.Node {
	var list []api.Node
	for _, n := range st.Nodes {
		if n.Kind == kind {
			list = append(list, n)
		}
	}
	return list
}

func oneOf[T any](r *rand.Rand, list []T) T { return list[r.Intn(len(list))] }

// newName: one that the directory hasn't.
func newName(r *rand.Rand, dir api.Node) string {
	for {
		name := strconv.Itoa(r.Intn(1000))
		if !slices.ContainsFunc(dir.Names, func(d api.Dent) bool { return d.Name == name }) {
			return name
		}
	}
}

// freeInos: the numbers that no node has.
func freeInos(st api.State) []int {
	var list []int
	for ino := 1; ino <= st.Shape.Inodes; ino++ {
		if nodeOf(st, ino).Kind == 0 {
			list = append(list, ino)
		}
	}
	return list
}

// drawnFills: some pages from off 0 to far, with a size that reaches behind the last one.
func drawnFills(r *rand.Rand, e *api.Edit, most, far int) {
	off := r.Intn(far)
	for range 1 + r.Intn(most) {
		e.Fills = append(e.Fills, api.Fill{Off: off, Data: noise(r)})
		off++
		if r.Intn(4) == 0 {
			off += r.Intn(5)
		}
		if off > 511 {
			break
		}
	}
	last := e.Fills[len(e.Fills)-1].Off
	e.Size = min(512*last+1+r.Intn(512)+512*(r.Intn(2)*r.Intn(4)), 262144)
}

// drawnShrink: a file that loses most of its pages.
func drawnShrink(r *rand.Rand, st api.State) []api.Edit {
	files := ofKind(st, api.KindFile)
	if len(files) == 0 {
		return nil
	}
	return []api.Edit{says(oneOf(r, files).Ino, size(r.Intn(700)))}
}

func drawnSizes(r *rand.Rand, e *api.Edit, most int) {
	for range 1 + r.Intn(most) {
		e.Entries = append(e.Entries, size(r.Intn(5000)))
	}
}

// drawnMake: a new inode under a name, sometimes with bytes, with a size, or with a second new one below it.
func drawnMake(r *rand.Rand, st api.State) []api.Edit {
	free := freeInos(st)
	if len(free) == 0 {
		return nil
	}
	dir := oneOf(r, ofKind(st, api.KindDir))
	ino := oneOf(r, free)
	made := newFile(ino)
	switch r.Intn(6) {
	case 0:
		made = newDir(ino)
	case 1:
		drawnFills(r, &made, 3, 4)
	case 2:
		drawnSizes(r, &made, 9)
	case 3:
		if below := oneOf(r, free); below != ino {
			made = newDir(ino)
			made.Entries = []api.Entry{add("in", below)}
			return []api.Edit{newFile(below), says(dir.Ino, add(newName(r, dir), ino)), made}
		}
	}
	return []api.Edit{says(dir.Ino, add(newName(r, dir), ino)), made}
}

// drawnLink: one or some more names for a file.
func drawnLink(r *rand.Rand, st api.State) []api.Edit {
	files := ofKind(st, api.KindFile)
	if len(files) == 0 {
		return nil
	}
	f, dir := oneOf(r, files), oneOf(r, ofKind(st, api.KindDir))
	more := 1 + r.Intn(9)*r.Intn(2)
	if f.Links+more > 100 {
		return nil
	}
	e := says(dir.Ino)
	for range more {
		name := newName(r, dir)
		dir.Names = append(slices.Clone(dir.Names), api.Dent{Name: name, Ino: f.Ino})
		e.Entries = append(e.Entries, add(name, f.Ino))
	}
	return []api.Edit{e, {Ino: f.Ino, Links: f.Links + more}}
}

// lessOne: the edit of an inode that loses a name.
func lessOne(n api.Node) api.Edit {
	if n.Links == 1 {
		return frees(n.Ino)
	}
	return api.Edit{Ino: n.Ino, Links: n.Links - 1}
}

func drawnDrop(r *rand.Rand, st api.State) []api.Edit {
	dir := oneOf(r, ofKind(st, api.KindDir))
	if len(dir.Names) == 0 {
		return nil
	}
	d := oneOf(r, dir.Names)
	n := nodeOf(st, d.Ino)
	if len(n.Names) > 0 {
		return nil
	}
	return []api.Edit{says(dir.Ino, drop(d.Name)), lessOne(n)}
}

func drawnMove(r *rand.Rand, st api.State) []api.Edit {
	dir, to := oneOf(r, ofKind(st, api.KindDir)), oneOf(r, ofKind(st, api.KindDir))
	if len(dir.Names) == 0 {
		return nil
	}
	d := oneOf(r, dir.Names)
	name := newName(r, to)
	if dir.Ino == to.Ino {
		return []api.Edit{says(dir.Ino, drop(d.Name), add(name, d.Ino))}
	}
	return []api.Edit{says(dir.Ino, drop(d.Name)), says(to.Ino, add(name, d.Ino))}
}

// drawnWrite: bytes and sizes of up to four files.
func drawnWrite(r *rand.Rand, st api.State) []api.Edit {
	var list []api.Edit
	files := ofKind(st, api.KindFile)
	r.Shuffle(len(files), func(i, k int) { files[i], files[k] = files[k], files[i] })
	for _, f := range files[:min(len(files), 1+r.Intn(4)*r.Intn(2))] {
		e := api.Edit{Ino: f.Ino}
		if r.Intn(4) == 0 {
			drawnSizes(r, &e, 1+r.Intn(10))
		}
		if r.Intn(4) > 0 {
			drawnFills(r, &e, 1+r.Intn(20)*r.Intn(2), 1+r.Intn(20))
		}
		if r.Intn(4) == 0 {
			e.Links = f.Links
		}
		list = append(list, e)
	}
	return list
}

// drawnEdits: edits that are good, if there are pages for them; but for some that go wrong by themselves.
func drawnEdits(r *rand.Rand, st api.State) []api.Edit {
	for {
		var list []api.Edit
		kind := r.Intn(10)
		if countOf(st.Free) < 8 && r.Intn(3) > 0 {
			kind = 3 // what is full is emptied again, or little would be seen but ErrNoSpace
		}
		switch kind {
		case 0, 1:
			list = drawnMake(r, st)
		case 2:
			list = drawnLink(r, st)
		case 3:
			list = drawnDrop(r, st)
			if len(list) == 0 || r.Intn(3) == 0 {
				list = drawnShrink(r, st)
			}
		case 4:
			list = drawnMove(r, st)
		default:
			list = drawnWrite(r, st)
		}
		if len(list) > 0 {
			r.Shuffle(len(list), func(i, k int) { list[i], list[k] = list[k], list[i] })
			return list
		}
	}
}

// spoilt: edits with something of them changed, which may be nothing that matters.
func spoilt(r *rand.Rand, edits []api.Edit) []api.Edit {
	list := slices.Clone(edits)
	i := r.Intn(len(list))
	e := &list[i]
	e.Entries, e.Fills = slices.Clone(e.Entries), slices.Clone(e.Fills)
	number := func() int {
		if r.Intn(2) == 0 {
			return oneOf(r, wild)
		}
		return r.Intn(12) - 2
	}
	switch r.Intn(12) {
	case 0:
		e.Ino = number()
	case 1:
		e.Kind = number()
	case 2, 3:
		e.Links = number()
	case 4:
		e.Size = number()
	case 5:
		e.Entries = append(e.Entries, api.Entry{Kind: number(), Name: "0", Ino: number(), Size: number()})
	case 6:
		e.Entries = append(e.Entries, oneOf(r, []api.Entry{size(number()), add("x", number()), drop("x"), drop("0"), {}}))
	case 7:
		if len(e.Fills) > 0 {
			e.Fills[r.Intn(len(e.Fills))].Off = number()
		}
	case 8:
		if len(e.Fills) > 0 {
			e.Fills[r.Intn(len(e.Fills))].Data = make([]byte, oneOf(r, []int{0, 511, 513, 1024}))
		}
	case 9:
		list = append(list, list[r.Intn(len(list))])
	case 10:
		list = slices.Delete(list, i, i+1)
	case 11:
		e.Fills = append(e.Fills, api.Fill{Off: number(), Data: noise(r)})
	}
	return list
}
