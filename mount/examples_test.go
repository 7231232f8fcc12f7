package mount_test

import (
	"testing"

	"furrow/api"
	"furrow/mount"
)

// bare: what the formatted small device means.
func bare() api.State {
	return api.State{Shape: small, Nodes: []api.Node{dir(1)}, Free: []api.Span{{From: 5, Count: 19}}}
}

// nine: example 4's device: the root's log has nine entries, in the pages 5 and 8.
func nine(t *testing.T) *disk {
	t.Helper()
	d := formatted(t, small)
	var es []api.Entry
	for i := range 4 {
		es = append(es, add("x", 2+i), drop("x"))
	}
	d.log(1, api.KindDir, 1, []int{5, 8}, append(es, add("a", 8))...)
	d.slot(8, api.Slot{Kind: api.KindFile, Links: 1})
	return d
}

func nineMeans() api.State {
	root := dir(1, api.Dent{Name: "a", Ino: 8})
	root.Head, root.Tail, root.Log, root.Entries = 5, 8*512+192, []int{5, 8}, 9
	return api.State{Shape: small, Nodes: []api.Node{root, file(8, 1)}, Free: []api.Span{{From: 6, Count: 2}, {From: 9, Count: 15}}}
}

func TestExample1(t *testing.T) {
	f := formatted(t, small).b
	for _, c := range []struct {
		b       []byte
		workers int
	}{{f, 0}, {f, 65}, {nil, 0}} {
		if m, err := mount.New(c.b, c.workers); m != nil || err != error(api.ErrWorkers) {
			t.Errorf("New(%d bytes, %d) = %v, %v", len(c.b), c.workers, m, err)
		}
	}
	m, err := mount.New(nil, 1)
	if m != nil {
		t.Error("New(nil, 1) gives a machine")
	}
	told(t, "New(nil, 1)", api.State{}, err, api.CorruptError{Reason: api.ErrSuper})
}

func TestExample2(t *testing.T) {
	m := machine(t, formatted(t, small).b, 3)
	if !m.Step(0) || m.Holds(0) != 0 {
		t.Error("Step(0) takes inode 1")
	}
	st, err := m.Result()
	plain(t, "Result behind one piece", st, err, api.ErrGoing)
	if !m.Step(-1) || m.Holds(2) != 0 {
		t.Error("Step(-1): worker 2 takes inode 2")
	}
	for i := range 6 {
		if m.Done() || !m.Step(i*i) {
			t.Errorf("piece %d", i+3)
		}
	}
	if !m.Done() || m.Steps() != 8 || m.Step(0) || m.Step(1) || m.Step(2) || m.Steps() != 8 {
		t.Errorf("behind the last piece: %v, %d", m.Done(), m.Steps())
	}
	if st, err := m.Result(); err != nil || !sameState(st, bare()) {
		t.Errorf("Result = %+v, %v", st, err)
	}
}

func TestExample3(t *testing.T) {
	f := formatted(t, small).b
	if st, err := mount.Mount(f, 64, []int{63, 63, -5}); err != nil || !sameState(st, bare()) {
		t.Errorf("Mount(F, 64, [63, 63, -5]) = %+v, %v", st, err)
	}
	if st, err := mount.Mount(f, 1, nil); err != nil || !sameState(st, bare()) {
		t.Errorf("Mount(F, 1, nil) = %+v, %v", st, err)
	}
}

func TestExample4(t *testing.T) {
	d := nine(t)
	m := machine(t, d.b, 1)
	for i, holds := range []int{1, 1, 0, 0, 0, 0, 0, 0, 0, 0} {
		if m.Done() || !m.Step(0) || m.Holds(0) != holds {
			t.Errorf("piece %d: holds %d, want %d", i+1, m.Holds(0), holds)
		}
	}
	if !m.Done() || m.Steps() != 10 {
		t.Errorf("%d pieces", m.Steps())
	}
	if st, err := m.Result(); err != nil || !sameState(st, nineMeans()) {
		t.Errorf("Result = %+v, %v", st, err)
	}
	d.b[5*512+100] ^= 4
	m = machine(t, d.b, 1)
	for i, holds := range []int{1, 0, 0, 0, 0, 0, 0, 0, 0} {
		if m.Done() || !m.Step(0) || m.Holds(0) != holds {
			t.Errorf("with a bit turned: piece %d: holds %d, want %d", i+1, m.Holds(0), holds)
		}
	}
	if !m.Done() || m.Steps() != 9 {
		t.Errorf("with a bit turned: %d pieces", m.Steps())
	}
	st, err := m.Result()
	told(t, "with a bit turned", st, err, api.CorruptError{Reason: api.ErrEntry, Place: 1})
}

func TestExample5(t *testing.T) {
	m := machine(t, nine(t).b, 2)
	for i, w := range []int{0, 1, 1, 1} {
		if !m.Step(w) || m.Holds(0) != 1 || m.Holds(1) != 0 || m.Steps() != i+1 {
			t.Errorf("piece %d: %d and %d", i+1, m.Holds(0), m.Holds(1))
		}
	}
	if m.Step(0); m.Holds(0) != 1 { // page 5, and so on
		t.Error("page 8 is still to be gone over")
	}
	for range 5 {
		m.Step(1)
	}
	if m.Done() || m.Holds(0) != 1 || m.Steps() != 9 || m.Step(1) {
		t.Error("worker 0 alone has a piece")
	}
	if !m.Step(0) || !m.Done() || m.Steps() != 10 {
		t.Error("the last piece")
	}
	if st, err := m.Result(); err != nil || !sameState(st, nineMeans()) {
		t.Errorf("Result = %+v, %v", st, err)
	}
}
