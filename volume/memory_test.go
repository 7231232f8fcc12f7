package volume_test

import (
	"bytes"
	"math/rand"
	"reflect"
	"slices"
	"strconv"
	"sync"
	"testing"

	"furrow/api"
	"furrow/pmem"
	"furrow/volume"
)

// spoil changes all of a list and of its spare room.
func spoil[T any](list []T, v T) {
	list = list[:cap(list)]
	for i := range list {
		list[i] = v
	}
}

// deep: edits with memory of their own, with spare room in every list.
func deep(edits []api.Edit) []api.Edit {
	list := slices.Grow(slices.Clone(edits), 3)
	for i := range list {
		e := &list[i]
		e.Entries = slices.Grow(slices.Clone(e.Entries), 3)
		e.Fills = slices.Grow(slices.Clone(e.Fills), 3)
		for k := range e.Fills {
			e.Fills[k].Data = slices.Grow(bytes.Clone(e.Fills[k].Data), 9)
		}
	}
	return list
}

// room: edits as all of their memory has them.
func room(edits []api.Edit) []api.Edit {
	var list []api.Edit
	for _, e := range edits[:cap(edits)] {
		e.Entries = slices.Clone(e.Entries[:cap(e.Entries)])
		e.Fills = slices.Clone(e.Fills[:cap(e.Fills)])
		for k := range e.Fills {
			e.Fills[k].Data = bytes.Clone(e.Fills[k].Data[:cap(e.Fills[k].Data)])
		}
		list = append(list, e)
	}
	return list
}

// TestP15_15ArgumentsAreLeftAlone: neither changed nor kept, the bytes of Fills too.
func TestP15_15ArgumentsAreLeftAlone(t *testing.T) {
	r := chance()
	d, v := fresh(t, small)
	for range 200 {
		edits := deep(drawnEdits(r, v.State()))
		if r.Intn(3) == 0 {
			edits = deep(spoilt(r, edits))
		}
		was := room(edits)
		v.Do(edits)
		if !reflect.DeepEqual(room(edits), was) {
			t.Fatalf("Do changed what it was given: %s", text(edits))
		}
		st, view := v.State(), d.View()
		for _, e := range edits {
			for _, f := range e.Fills {
				spoil(f.Data, 0x5A)
			}
			spoil(e.Fills, api.Fill{Off: 3})
			spoil(e.Entries, add("zzz", 5))
		}
		spoil(edits, api.Edit{Ino: 1})
		if !sameState(v.State(), st) || !bytes.Equal(d.View(), view) {
			t.Fatal("something of the edits was kept")
		}
		holds(t, "P15.15", d, v)
	}
	picks := []int{3, -1, 7, 9, 9}
	volume.Mount(d, 2, picks[:3])
	if !slices.Equal(picks, []int{3, -1, 7, 9, 9}) {
		t.Error("Mount changed the picks")
	}
}

func spoilNode(n api.Node) {
	spoil(n.Map, api.Run{Off: 1, Page: 1, Count: 1})
	spoil(n.Names, api.Dent{Name: "zzz", Ino: 1})
	spoil(n.Log, 1)
}

// TestP15_15AnswersAreNewMemory: what is done to an answer nobody sees.
func TestP15_15AnswersAreNewMemory(t *testing.T) {
	r := chance()
	for _, s := range []api.Super{small, middling} {
		d, v := worked(t, r, s, 40)
		want := replayed(t, d.View())
		for range 3 {
			st, other := v.State(), v.State()
			for i := range st.Nodes {
				spoilNode(st.Nodes[i])
			}
			spoil(st.Nodes, api.Node{Ino: 7})
			spoil(st.Free, api.Span{From: 1, Count: 1})
			if !sameState(other, want) {
				t.Fatal("two answers of State share memory")
			}
			for _, n := range want.Nodes {
				one, _ := v.Node(n.Ino)
				spoilNode(one)
				spoil(v.Names(n.Ino), api.Dent{Name: "yyy", Ino: 1})
				b, _ := v.Page(n.Ino, 0)
				spoil(b, 0xA5)
			}
			holds(t, "P15.15", d, v)
		}
		tells(t, d, v)
	}
}

// TestP15_15NoPanic: edits of anything at all, and looks at anything.
func TestP15_15NoPanic(t *testing.T) {
	r := chance()
	number := func() int { return append(wild, 1, 2, 3, 4, 5, 100)[r.Intn(len(wild)+6)] }
	name := func() string {
		return oneOf(r, []string{"", "a", "b", ".", "/", "\x00", string(make([]byte, 400)), "\xff\xfe"})
	}
	d, v := furnished(t)
	m := load(t, d.View())
	for d.Steps() > m.Steps() {
		m.Fence()
	}
	for range 4000 {
		var edits []api.Edit
		for range r.Intn(4) {
			e := api.Edit{Ino: number(), Kind: number(), Links: number(), Size: number()}
			if r.Intn(2) == 0 {
				e = api.Edit{Ino: 1 + r.Intn(5), Size: number()}
			}
			for range r.Intn(3) {
				e.Entries = append(e.Entries, api.Entry{Kind: number(), Seq: r.Uint64(), Off: number(), Count: number(), Page: number(), Size: number(), Ino: number(), Name: name()})
			}
			for range r.Intn(3) {
				e.Fills = append(e.Fills, api.Fill{Off: number(), Data: make([]byte, oneOf(r, []int{0, 1, 511, 512, 513, 5000}))})
			}
			edits = append(edits, e)
		}
		beside(t, "P15.15", d, m, v, edits)
		v.Node(number())
		v.Look(number(), name())
		v.Names(number())
		v.Page(number(), number())
	}
}

// TestP15_15Apart: two volumes have nothing to do with one another.
func TestP15_15Apart(t *testing.T) {
	one, v := example(t, 3)
	two, w := example(t, 3)
	does(t, v, api.OK, says(1, drop("a")), frees(2))
	holds(t, "P15.15", two, w)
	isPage(t, w, 2, 0, 'X', api.OK)
	v.Unmount()
	does(t, w, api.OK, writes(2, 5, fills('q', 0)...))
	holds(t, "P15.15", two, w)
	if st := replayed(t, one.View()); len(st.Nodes) != 1 {
		t.Errorf("%+v", st)
	}
}

// TestP15_15MountedAnew: a volume that is mounted anew is as if the former one weren't there.
func TestP15_15MountedAnew(t *testing.T) {
	d, _ := example(t, 3)
	w := mounts(t, d)
	does(t, w, api.OK, says(1, add("b", 3)), newFile(3))
	holds(t, "P15.15", d, w)
	if e := volume.Format(d, small); e != api.OK {
		t.Fatal("Format", e)
	}
	w = mounts(t, d)
	tells(t, d, w)
	does(t, w, api.OK, says(1, add("b", 2)), newFile(2))
	holds(t, "P15.15", d, w)
}

// inTurns: goroutines that all work on one volume, each with a file of its own, and look at it.
func inTurns(t *testing.T, d *pmem.Device, v *volume.Volume, many int) {
	t.Helper()
	var group sync.WaitGroup
	failed := make([]string, many)
	for k := range many {
		group.Add(1)
		go func() {
			defer group.Done()
			r := rand.New(rand.NewSource(int64(k)))
			ino, name := k+2, "n"+strconv.Itoa(k)
			if e := v.Do([]api.Edit{says(1, add(name, ino)), newFile(ino)}); e != api.OK {
				failed[k] = "making: " + e.Error()
				return
			}
			for i := range 30 {
				b := noise(r)
				if e := v.Do([]api.Edit{writes(ino, 512*(i%3)+1, api.Fill{Off: i % 3, Data: b})}); e != api.OK {
					failed[k] = "writing: " + e.Error()
				}
				if got, e := v.Page(ino, i%3); e != api.OK || !bytes.Equal(got, b) {
					failed[k] = "its page is another's"
				}
				v.State()
				v.Node(1 + r.Intn(many))
				v.Names(1)
				v.NewInode()
				v.FreePages()
				v.FreeInodes()
				v.Why()
				if i, sub := v.Look(1, name); i != ino || sub {
					failed[k] = "its name is gone"
				}
			}
		}()
	}
	group.Wait()
	for k, what := range failed {
		if what != "" {
			t.Errorf("goroutine %d: %s", k, what)
		}
	}
	holds(t, "P15.15", d, v)
}

func TestP15_15Goroutines(t *testing.T) {
	d, v := fresh(t, api.Super{Pages: 200, Inodes: 16, Cores: 4})
	inTurns(t, d, v, 8)
	var group sync.WaitGroup
	answers := make([]api.Errno, 8)
	for k := range answers {
		group.Add(1)
		go func() {
			defer group.Done()
			answers[k] = v.Unmount()
		}()
	}
	group.Wait()
	slices.Sort(answers)
	if answers[0] != api.OK || answers[1] != api.ErrClosed || answers[7] != api.ErrClosed {
		t.Errorf("Unmount by eight: %v", answers)
	}
}
