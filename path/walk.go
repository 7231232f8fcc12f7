package path

import "furrow/api"

// place: where a name stands: the key of a table.
type place struct {
	dir  int
	name string
}

// end: what a name stands for.
type end struct {
	ino int
	sub bool
}

// walk: what the parts lead to from the root. The whole way is kept, since '..' goes back the way that was come, not to what a directory would call its parent.
func walk(t Dirs, parts []string) (end, api.Errno) {
	way := []end{{api.Root, true}}
	e := api.OK
steps:
	for _, part := range parts {
		at := way[len(way)-1]
		if !at.sub {
			e = api.ErrNotDir
			break steps
		}
		switch part {
		case here:
			continue steps
		case back:
			way = way[:max(len(way)-1, 1)]
		default:
			ino, sub := t.Look(at.ino, part)
			if ino < 1 {
				e = api.ErrNoEnt
				break steps
			}
			way = append(way, end{ino, sub})
		}
	}
	if e != api.OK {
		return end{}, e
	}
	return way[len(way)-1], api.OK
}
