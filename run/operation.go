package run

import (
	"furrow/api"
	"furrow/fs"
	"furrow/script"
)

// operation: how a step of a kind is played that is an operation of a volume: the path interface's method with the step's arguments, and what is told of its answer.
func operation(v *fs.FS, kind int) play {
	switch kind {
	case api.StepCreate:
		return onPath(v.Create)
	case api.StepMkdir:
		return onPath(v.Mkdir)
	case api.StepUnlink:
		return onPath(v.Unlink)
	case api.StepRmdir:
		return onPath(v.Rmdir)
	case api.StepRename:
		return onPaths(v.Rename)
	case api.StepLink:
		return onPaths(v.Link)
	case api.StepWrite:
		return func(s api.Step) (string, error) { return done, v.Write(s.A, s.N, s.B) }
	case api.StepTruncate:
		return func(s api.Step) (string, error) { return done, v.Truncate(s.A, s.N) }
	case api.StepRead:
		return reading(v.Read)
	case api.StepStat:
		return asking(v.Stat, statText)
	case api.StepList:
		return asking(v.ReadDir, listText)
	case api.StepWalk:
		return asking(ofWhole(v.Walk), walkText)
	}
	return asking(ofWhole(v.Info), infoText) // StepInfo: the one kind that is left
}

func onPath(change func(path string) error) play {
	return func(s api.Step) (string, error) { return done, change(s.A) }
}

func onPaths(change func(path, to string) error) play {
	return func(s api.Step) (string, error) { return done, change(s.A, s.B) }
}

func reading(read func(path string, off, n int) (string, error)) play {
	return func(s api.Step) (string, error) {
		text, err := read(s.A, s.N, s.M)
		return inWords(done, script.Quote(text)), err
	}
}

// asking: a method that changes nothing, and the text of what it answers.
func asking[T any](ask func(path string) (T, error), text func(T) string) play {
	return func(s api.Step) (string, error) {
		answer, err := ask(s.A)
		return text(answer), err
	}
}

// ofWhole: a method that has no path, as one that doesn't look at it.
func ofWhole[T any](ask func() (T, error)) func(string) (T, error) {
	return func(string) (T, error) { return ask() }
}
