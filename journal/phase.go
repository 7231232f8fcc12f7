package journal

import (
	"slices"

	"furrow/api"
	"furrow/pmem"
)

// phase: a part of a commit or a recovery that is durable as a whole ahead of the next one's first step.
type phase struct {
	run func() api.Errno
}

// inOrder: what the first phase answers that is refused; those behind it aren't begun.
func inOrder(phases ...phase) api.Errno {
	for _, p := range phases {
		if e := p.run(); e != api.OK {
			return e
		}
	}
	return api.OK
}

// durable: the phase that stores the words, in the order of the list, and makes them durable.
func durable(d *pmem.Device, words ...api.Change) phase {
	return phase{run: func() api.Errno {
		for _, w := range words {
			if e := d.Store(w.At, w.New); e != api.OK {
				return e
			}
		}
		for _, line := range lines(words) {
			if e := d.Flush(line); e != api.OK {
				return e
			}
		}
		return d.Fence()
	}}
}

// lines: the lines that hold the words, each once, rising.
func lines(words []api.Change) []int {
	var list []int
	for _, w := range words {
		list = append(list, w.At-w.At%api.LineSize)
	}
	slices.Sort(list)
	return slices.Compact(list)
}
