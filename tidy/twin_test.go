package tidy_test

import (
	"bytes"
	"reflect"
	"testing"

	"furrow/api"
	"furrow/pmem"
	"furrow/tidy"
	"furrow/volume"
)

// A twin is a volume of its own to which the transactions are done that the chapter says, with offers reckoned page by page in its words. What the calls do is held against it: the device's bytes, its steps and its doubts.
type twin struct {
	d    *pmem.Device
	v    *volume.Volume
	full *int // how often no page was left for a log
}

// twinOf: a twin of a device, with as many steps done.
func twinOf(t *testing.T, d *pmem.Device) twin {
	t.Helper()
	m := load(t, d.View())
	w := mounts(t, m)
	for m.Steps() < d.Steps() {
		m.Fence()
	}
	return twin{m, w, new(int)}
}

// stands: at which device pages the file pages of a node stand; 0: a hole.
func stands(n api.Node) (at [512]int) {
	for _, r := range n.Map {
		for i := range r.Count {
			at[r.Off+i] = r.Page + i
		}
	}
	return at
}

// runsOf: how many runs such a map has.
func runsOf(at [512]int) int {
	runs, before := 0, -1
	for _, page := range at {
		if page > 0 && page != before+1 {
			runs++
		}
		before = page
		if page == 0 {
			before = -1
		}
	}
	return runs
}

func (w twin) spread() int {
	sum := 0
	for _, n := range w.v.State().Nodes {
		if n.Kind == api.KindFile {
			sum += runsOf(stands(n))
		}
	}
	return sum
}

// offer: the file's map as it would be; false: there is none.
func (w twin) offer(n api.Node) (at [512]int, ok bool) {
	st := w.v.State()
	free := map[int]int{}
	for _, s := range st.Free {
		for p := s.From; p < s.From+s.Count; p++ {
			free[p] = 1
		}
	}
	var list []int
	s := st.Shape
	for k := range s.Cores {
		c := (n.Ino + k) % s.Cores
		for p := s.Data + c*(s.Pages-s.Data)/s.Cores; p < s.Data+(c+1)*(s.Pages-s.Data)/s.Cores; p++ {
			if free[p] == 1 {
				list = append(list, p)
			}
		}
	}
	for off, page := range stands(n) {
		if page == 0 {
			continue
		}
		if len(list) == 0 {
			return at, false
		}
		at[off], list, ok = list[0], list[1:], true
	}
	return at, ok
}

func (w twin) file(ino int) (bool, api.Errno) {
	n, e := w.v.Node(ino)
	switch {
	case e != api.OK:
		return false, e
	case n.Kind == api.KindDir:
		return false, api.ErrIsDir
	}
	at, ok := w.offer(n)
	if !ok || runsOf(at) >= runsOf(stands(n)) {
		return false, api.OK
	}
	edit := api.Edit{Ino: ino, Size: n.Size}
	for off, page := range at {
		if page > 0 {
			b, _ := w.v.Page(ino, off)
			edit.Fills = append(edit.Fills, api.Fill{Off: off, Data: b})
		}
	}
	switch e := w.v.Do([]api.Edit{edit}); e {
	case api.ErrNoSpace:
		*w.full++
		return false, api.OK
	case api.ErrDead:
		return false, api.ErrDead
	}
	return true, api.OK
}

// all: rounds tells how many there were.
func (w twin) all() (done int, e api.Errno, rounds int) {
	if _, e := w.v.NewInode(); e == api.ErrClosed {
		return 0, e, 0
	}
	for again := true; again; rounds++ {
		again = false
		for ino := 1; ino <= 256; ino++ {
			n, e := w.v.Node(ino)
			if e != api.OK || n.Kind != api.KindFile {
				continue
			}
			did, e := w.file(ino)
			if e == api.ErrDead {
				return 0, e, rounds
			}
			if did {
				done++
				again = true
			}
		}
	}
	return done, api.OK, rounds
}

// alike: whether a device is what the twin's is, and its volume too.
func (w twin) alike(t *testing.T, what string, d *pmem.Device, v *volume.Volume) {
	t.Helper()
	if d.Steps() != w.d.Steps() || !bytes.Equal(d.View(), w.d.View()) || !reflect.DeepEqual(d.Doubts(), w.d.Doubts()) {
		t.Fatalf("%s: %d steps, doubts %v; want %d, %v", what, d.Steps(), d.Doubts(), w.d.Steps(), w.d.Doubts())
	}
	if !reflect.DeepEqual(v.State(), w.v.State()) {
		t.Fatalf("%s: the state is\n%+v\nthe twin's is\n%+v", what, v.State(), w.v.State())
	}
}

// fileBeside, allBeside, spreadBeside: the same to a volume and its twin.
func fileBeside(t *testing.T, d *pmem.Device, v *volume.Volume, w twin, ino int) (bool, api.Errno) {
	t.Helper()
	did, e := tidy.File(v, ino)
	if want, no := w.file(ino); did != want || e != no {
		t.Fatalf("File(%d) = %v, %v; want %v, %v", ino, did, e, want, no)
	}
	w.alike(t, "File", d, v)
	return did, e
}

func allBeside(t *testing.T, d *pmem.Device, v *volume.Volume, w twin) (int, api.Errno, int) {
	t.Helper()
	n, e := tidy.All(v)
	want, no, rounds := w.all()
	if n != want || e != no {
		t.Fatalf("All = %d, %v; want %d, %v", n, e, want, no)
	}
	w.alike(t, "All", d, v)
	return n, e, rounds
}

func spreadBeside(t *testing.T, v *volume.Volume, w twin) int {
	t.Helper()
	n := tidy.Spread(v)
	if want := w.spread(); n != want {
		t.Fatalf("Spread = %d; want %d", n, want)
	}
	return n
}
