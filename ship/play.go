package ship

import (
	"furrow/api"
	"furrow/fs"
)

// play: a step's error: that of its method, just as it is. A step of another kind is refused here, so that nothing is asked of the file system.
func play(f *fs.FS, s api.Step) error {
	switch s.Kind {
	case api.StepCreate:
		return f.Create(s.A)
	case api.StepMkdir:
		return f.Mkdir(s.A)
	case api.StepUnlink:
		return f.Unlink(s.A)
	case api.StepRmdir:
		return f.Rmdir(s.A)
	case api.StepLink:
		return f.Link(s.A, s.B)
	case api.StepWrite:
		return f.Write(s.A, s.N, s.B)
	case api.StepTruncate:
		return f.Truncate(s.A, s.N)
	}
	return api.ErrStepKind
}
