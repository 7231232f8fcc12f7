package tree

import "furrow/api"

// freed: the Links of an edit that frees its inode.
const freed = -1

func add(name string, ino int) api.Entry {
	return api.Entry{Kind: api.EntAdd, Name: name, Ino: ino}
}

func drop(name string) api.Entry {
	return api.Entry{Kind: api.EntDrop, Name: name}
}

// says: the edit that puts entries into a directory's log.
func says(dir int, entries ...api.Entry) api.Edit {
	return api.Edit{Ino: dir, Entries: entries}
}

// oneNameLess: with its last name an inode is freed: a directory always, since it has just one.
func oneNameLess(n api.Node) api.Edit {
	if n.Links == 1 {
		return api.Edit{Ino: n.Ino, Links: freed}
	}
	return api.Edit{Ino: n.Ino, Links: n.Links - 1}
}

// moves: the edits that let a name go and another come in its stead, and let go what the other one stood for. A directory that has both has one edit: Do takes no two of one inode.
func moves(from, to place) []api.Edit {
	var comes []api.Entry
	var loses []api.Edit
	if to.what.there() {
		comes = append(comes, drop(to.name))
		loses = append(loses, oneNameLess(to.what.node))
	}
	comes = append(comes, add(to.name, from.what.node.Ino))
	dir, todir := from.dir.node.Ino, to.dir.node.Ino
	if dir == todir {
		both := append([]api.Entry{drop(from.name)}, comes...)
		return append([]api.Edit{says(dir, both...)}, loses...)
	}
	return append([]api.Edit{says(dir, drop(from.name)), says(todir, comes...)}, loses...)
}
