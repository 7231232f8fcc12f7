package ship

import "furrow/api"

// What the file system may need at most, free ahead of an operation (rule R10).
const (
	forName  = 1 // create, mkdir, unlink, rmdir, link
	forSize  = 2 // truncate
	forWrite = 2 // write, beside the pages that it touches
)

// needs: how many free pages a step may need at most; none, where it is of another kind.
func needs(s api.Step) int {
	switch s.Kind {
	case api.StepCreate, api.StepMkdir, api.StepUnlink, api.StepRmdir, api.StepLink:
		return forName
	case api.StepTruncate:
		return forSize
	case api.StepWrite:
		return needsWrite(s.N, len(s.B))
	}
	return 0
}

// needsWrite: how many a write of so many bytes may need. One that is refused for its numbers, or writes nothing, needs none. (The file's end is asked by a difference, which can't wrap.)
func needsWrite(off, many int) int {
	if many == 0 || many > api.MaxData || off < 0 || off > api.MaxSize-many {
		return 0
	}
	first, last := off/api.PageSize, (off+many-1)/api.PageSize
	return last - first + 1 + forWrite
}
