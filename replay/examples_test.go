package replay_test

import (
	"testing"

	"furrow/api"
)

// bare: what a formatted small device means.
func bare() api.State {
	return api.State{Shape: small, Nodes: []api.Node{dir(1)}, Free: []api.Span{{From: 5, Count: 19}}}
}

// four: example 4's device.
func four(t *testing.T) *disk {
	t.Helper()
	d := formatted(t, small)
	d.log(1, api.KindDir, 1, []int{9}, add("a", 2), add("b", 2))
	d.slot(2, api.Slot{Kind: api.KindFile, Links: 2})
	return d
}

// fourMeans: example 4's state.
func fourMeans() api.State {
	root := dir(1, to(2, 2)...)
	root.Head, root.Tail, root.Log, root.Entries = 9, 4800, []int{9}, 2
	return api.State{Shape: small, Nodes: []api.Node{root, file(2, 2)}, Free: []api.Span{{From: 5, Count: 4}, {From: 10, Count: 14}}}
}

func TestExample1(t *testing.T) {
	z := formatted(t, small)
	means(t, "Z", z.b, bare())
	corrupt(t, "no bytes", nil, api.ErrSuper, 0)
	corrupt(t, "an empty list", []byte{}, api.ErrSuper, 0)
	corrupt(t, "zeros", make([]byte, 12288), api.ErrSuper, 0)
	corrupt(t, "a byte less", z.b[:len(z.b)-1], api.ErrSuper, 0)
	corrupt(t, "a byte more", append(z.b, 0), api.ErrSuper, 0)
}

func TestExample2(t *testing.T) {
	z := formatted(t, small)
	z.b[0] ^= 1
	means(t, "the copy counts", z.b, bare())
	z.b[64] ^= 1
	corrupt(t, "both", z.b, api.ErrSuper, 0)
}

func TestExample3(t *testing.T) {
	z := formatted(t, small)
	clear(z.b[2048:2112])
	corrupt(t, "no root", z.b, api.ErrRoot, 1)
	z = formatted(t, small)
	z.put(2176, 7)
	corrupt(t, "slot 3", z.b, api.ErrSlot, 3)
	z.put(2048, 7)
	corrupt(t, "slots 1 and 3", z.b, api.ErrSlot, 1)
}

func TestExample4(t *testing.T) {
	means(t, "4", four(t).b, fourMeans())
}

func TestExample5(t *testing.T) {
	d := four(t)
	d.slot(2, api.Slot{Kind: api.KindFile, Links: 1})
	corrupt(t, "1 link", d.b, api.ErrCount, 2)
	d.slot(2, api.Slot{})
	corrupt(t, "free", d.b, api.ErrHang, 1)
	d = four(t)
	d.log(1, api.KindDir, 1, []int{9}, add("a", 2), add("b", 3))
	d.slot(2, api.Slot{Kind: api.KindFile, Links: 1})
	corrupt(t, "3 is free", d.b, api.ErrHang, 1)
}

func TestExample6(t *testing.T) {
	d := four(t)
	d.slot(5, api.Slot{Kind: api.KindDir, Links: 1})
	corrupt(t, "no name", d.b, api.ErrCount, 5)
	d.log(5, api.KindDir, 1, []int{12}, add("x", 6))
	d.log(6, api.KindDir, 1, []int{13}, add("y", 5))
	corrupt(t, "a ring", d.b, api.ErrLost, 5)
}

func TestExample7(t *testing.T) {
	written := func(page int) []byte {
		d := four(t)
		d.log(2, api.KindFile, 2, []int{12}, write(0, 2, page, 600))
		return d.b
	}
	corrupt(t, "the root's log", written(9), api.ErrTwice, 9)
	corrupt(t, "its own log", written(12), api.ErrTwice, 12)
	corrupt(t, "its own log behind", written(11), api.ErrTwice, 12)
	want := fourMeans()
	f := &want.Nodes[1]
	f.Size, f.Map, f.Head, f.Tail, f.Log, f.Entries = 600, []api.Run{run(0, 13, 2)}, 12, 12*512+128, []int{12}, 1
	want.Free = []api.Span{{From: 5, Count: 4}, {From: 10, Count: 2}, {From: 15, Count: 9}}
	means(t, "good", written(13), want)
}

func TestExample8(t *testing.T) {
	judges(t, "a name for the root", small, []api.Node{dir(1, to(2)...), dir(2, to(1)...)}, api.ErrCount, 1)
	judges(t, "no root", small, []api.Node{dir(2)}, api.ErrRoot, 1)
	judges(t, "a file", small, []api.Node{file(1, 1)}, api.ErrRoot, 1)
	judges(t, "none", small, nil, api.ErrRoot, 1)
	judges(t, "twice", small, []api.Node{dir(1), dir(1)}, api.ErrInode, 0)
	owners(t, "two", small, []api.Node{{Log: []int{7}}, {Map: []api.Run{run(0, 6, 3)}}}, []int{7}, api.ErrTwice)
	owners(t, "outside", small, []api.Node{{Log: []int{4}}}, nil, api.ErrRange)
}
