package volume_test

import (
	"bytes"
	"math"
	"math/rand"
	"reflect"
	"slices"
	"testing"

	"furrow/api"
	"furrow/codec"
	"furrow/pmem"
	"furrow/replay"
	"furrow/volume"
)

// small, middling, tight, large: from the smallest device to the largest one; tight has as few data pages as may be.
var (
	small    = api.Super{Pages: 24, Inodes: 8, Cores: 1}
	middling = api.Super{Pages: 60, Inodes: 24, Cores: 3}
	tight    = api.Super{Pages: 24, Inodes: 96, Cores: 8}
	large    = api.Super{Pages: 1024, Inodes: 256, Cores: 8}
)

// wild: numbers that no inode, no offset and no size is.
var wild = []int{0, -1, -2, -8, -511, 97, 257, 512, 1024, 262145, 1<<31 + 1, 1<<32 + 1, 1<<32 + 2, 1 << 62, math.MaxInt, math.MaxInt - 511, math.MinInt, math.MinInt + 1, -1<<32 + 2}

func chance() *rand.Rand { return rand.New(rand.NewSource(15)) }

func device(t *testing.T, pages int) *pmem.Device {
	t.Helper()
	d, e := pmem.New(512 * pages)
	if e != api.OK {
		t.Fatal("New", e)
	}
	return d
}

func load(t *testing.T, image []byte) *pmem.Device {
	t.Helper()
	d, e := pmem.Load(image)
	if e != api.OK {
		t.Fatal("Load", e)
	}
	return d
}

// formatted: a device of its own, without doubts, and with no steps done.
func formatted(t *testing.T, s api.Super) *pmem.Device {
	t.Helper()
	d := device(t, s.Pages)
	if e := volume.Format(d, s); e != api.OK {
		t.Fatalf("Format(%v) = %v", s, e)
	}
	return load(t, d.View())
}

func mounts(t *testing.T, d *pmem.Device) *volume.Volume {
	t.Helper()
	v, err := volume.Mount(d, 1, nil)
	if v == nil || err != nil {
		t.Fatalf("Mount: %v", err)
	}
	return v
}

func fresh(t *testing.T, s api.Super) (*pmem.Device, *volume.Volume) {
	t.Helper()
	d := formatted(t, s)
	return d, mounts(t, d)
}

func does(t *testing.T, v *volume.Volume, want api.Errno, edits ...api.Edit) {
	t.Helper()
	if e := v.Do(edits); e != want {
		t.Fatalf("Do(%s) = %v; want %v", text(edits), e, want)
	}
}

// replayed: the state that bytes mean.
func replayed(t *testing.T, image []byte) api.State {
	t.Helper()
	st, err := replay.Replay(image)
	if err != nil {
		t.Fatalf("Replay: %v", err)
	}
	return st
}

func data(b byte) []byte { return bytes.Repeat([]byte{b}, 512) }

// noise: a page's bytes, any at all.
func noise(r *rand.Rand) []byte {
	b := make([]byte, 512)
	r.Read(b)
	return b
}

// fills: of pages that are unlike, the first one all b.
func fills(b byte, offs ...int) []api.Fill {
	var l []api.Fill
	for i, off := range offs {
		l = append(l, api.Fill{Off: off, Data: data(b + byte(i))})
	}
	return l
}

func add(name string, ino int) api.Entry {
	return api.Entry{Kind: api.EntAdd, Name: name, Ino: ino}
}

func drop(name string) api.Entry { return api.Entry{Kind: api.EntDrop, Name: name} }

func size(n int) api.Entry { return api.Entry{Kind: api.EntSize, Size: n} }

// says: an edit of an inode that is there, by entries alone.
func says(ino int, entries ...api.Entry) api.Edit { return api.Edit{Ino: ino, Entries: entries} }

// newFile, newDir: what makes an inode.
func newFile(ino int) api.Edit { return api.Edit{Ino: ino, Kind: api.KindFile, Links: 1} }

func newDir(ino int) api.Edit { return api.Edit{Ino: ino, Kind: api.KindDir, Links: 1} }

func frees(ino int) api.Edit { return api.Edit{Ino: ino, Links: -1} }

// writes: an edit of a file that is there, by Fills alone.
func writes(ino, size int, list ...api.Fill) api.Edit {
	return api.Edit{Ino: ino, Fills: list, Size: size}
}

// text: edits without the bytes of their Fills.
func text(edits []api.Edit) string {
	var l []api.Edit
	for _, e := range edits {
		e.Fills = slices.Clone(e.Fills)
		for i := range e.Fills {
			e.Fills[i].Data = e.Fills[i].Data[:min(1, len(e.Fills[i].Data))]
		}
		l = append(l, e)
	}
	return sprint(l)
}

// plain: a node in which an empty list is nil.
func plain(n api.Node) api.Node {
	n.Map, n.Names, n.Log = append([]api.Run(nil), n.Map...), append([]api.Dent(nil), n.Names...), append([]int(nil), n.Log...)
	return n
}

// sameState: an empty list and nil are one.
func sameState(a, b api.State) bool {
	if a.Shape != b.Shape || len(a.Nodes) != len(b.Nodes) || !slices.Equal(a.Free, b.Free) {
		return false
	}
	for i := range a.Nodes {
		if !reflect.DeepEqual(plain(a.Nodes[i]), plain(b.Nodes[i])) {
			return false
		}
	}
	return true
}

// meant: a state without what a collection changes.
func meant(st api.State) []api.Node {
	var l []api.Node
	for _, n := range st.Nodes {
		n = plain(n)
		n.Head, n.Tail, n.Log, n.Entries = 0, 0, nil, 0
		l = append(l, n)
	}
	return l
}

// holds: whether the volume's state is what the device's bytes mean, and no word is in doubt.
func holds(t *testing.T, what string, d *pmem.Device, v *volume.Volume) {
	t.Helper()
	if st, want := v.State(), replayed(t, d.View()); !sameState(st, want) || len(d.Doubts()) != 0 {
		t.Fatalf("%s: the state is\n%+v\nthe bytes mean\n%+v\ndoubts %v", what, st, want, d.Doubts())
	}
}

// alike: whether a device is what another is: its bytes, doubts and steps.
func alike(t *testing.T, what string, d, m *pmem.Device) {
	t.Helper()
	if d.Steps() != m.Steps() || !bytes.Equal(d.View(), m.View()) || !reflect.DeepEqual(d.Doubts(), m.Doubts()) || !bytes.Equal(d.Crash(nil), m.Crash(nil)) {
		t.Fatalf("%s: %d steps, doubts %v; want %d, %v", what, d.Steps(), d.Doubts(), m.Steps(), m.Doubts())
	}
}

// still: whether a call did nothing to a device.
func still(t *testing.T, what string, d *pmem.Device, call func()) {
	t.Helper()
	steps, view, doubts := d.Steps(), d.View(), d.Doubts()
	call()
	if d.Steps() != steps || !bytes.Equal(d.View(), view) || !reflect.DeepEqual(d.Doubts(), doubts) {
		t.Errorf("%s: it did %d steps", what, d.Steps()-steps)
	}
}

// refuses: whether Do answers that, and nothing has changed, on the device or in memory.
func refuses(t *testing.T, d *pmem.Device, v *volume.Volume, want api.Errno, edits ...api.Edit) {
	t.Helper()
	st := v.State()
	still(t, text(edits), d, func() {
		if e := v.Do(edits); e != want {
			t.Errorf("Do(%s) = %v; want %v", text(edits), e, want)
		}
	})
	if !sameState(v.State(), st) || v.FreePages() != countOf(st.Free) {
		t.Errorf("Do(%s) answers %v, and the state is %+v; it was %+v", text(edits), want, v.State(), st)
	}
}

func countOf(spans []api.Span) int {
	n := 0
	for _, s := range spans {
		n += s.Count
	}
	return n
}

// closed: whether all calls of a closed volume answer as such a one's do.
func closed(t *testing.T, what string, v *volume.Volume, why api.Errno) {
	t.Helper()
	st := v.State()
	n, e1 := v.Node(1)
	ino, sub := v.Look(1, "a")
	b, e2 := v.Page(1, -1)
	fresh, e3 := v.NewInode()
	if !sameState(st, api.State{}) || !reflect.DeepEqual(n, api.Node{}) || ino != 0 || sub || v.Names(1) != nil || b != nil || v.FreePages() != 0 || v.FreeInodes() != 0 || fresh != 0 {
		t.Errorf("%s: a closed volume tells something", what)
	}
	if e1 != api.ErrClosed || e2 != api.ErrClosed || e3 != api.ErrClosed || v.Do(nil) != api.ErrClosed || v.Do([]api.Edit{{Ino: 1}}) != api.ErrClosed || v.Unmount() != api.ErrClosed {
		t.Errorf("%s: a closed volume doesn't say so", what)
	}
	if v.Why() != why {
		t.Errorf("%s: Why = %v; want %v", what, v.Why(), why)
	}
}

// everyCrash: what a loss of power may leave of the device: all of it, if that is at most most; else the two ends, and some that are drawn.
func everyCrash(r *rand.Rand, d *pmem.Device, most int) [][]byte {
	doubts := d.Doubts()
	all := 1
	for _, w := range doubts {
		all = min(all*(len(w.News)+1), most+1)
	}
	var list [][]byte
	choices := make([]int, len(doubts))
	if all <= most {
		for range all {
			list = append(list, d.Crash(choices))
			for k := range choices { // the next number of the counter
				choices[k]++
				if choices[k] <= len(doubts[k].News) {
					break
				}
				choices[k] = 0
			}
		}
		return list
	}
	list = append(list, d.Crash(nil), d.View())
	for len(list) < most {
		for k := range choices {
			choices[k] = r.Int()
		}
		list = append(list, d.Crash(choices))
	}
	return list
}

func word(t *testing.T, d *pmem.Device, at int) uint64 {
	t.Helper()
	w, e := d.Word(at)
	if e != api.OK {
		t.Fatal("Word", at, e)
	}
	return w
}

func put(b []byte, at int, w uint64) { copy(b[at:], codec.Bytes(w)) }
