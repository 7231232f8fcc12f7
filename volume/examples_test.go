package volume_test

import (
	"bytes"
	"reflect"
	"slices"
	"testing"

	"furrow/api"
	"furrow/pmem"
	"furrow/volume"
)

// example: a device and its volume, behind the first n examples.
func example(t *testing.T, n int) (*pmem.Device, *volume.Volume) {
	t.Helper()
	d, v := fresh(t, small)
	many := make([]int, 13)
	for i := range many {
		many[i] = i
	}
	for i, edits := range [][]api.Edit{
		nil,
		{says(1, add("a", 2)), newFile(2)},
		{writes(2, 600, fills('X', 0, 1)...)},
		{writes(2, 600, fills('Z', 1)...)},
		{writes(2, 2049, fills('X', 3, 4)...)},
		nil,
		{says(2, size(2049))},
		{writes(2, 6656, fills('a', many...)...)},
		{says(1, drop("a")), frees(2)},
	} {
		if i < n && edits != nil {
			does(t, v, api.OK, edits...)
		}
	}
	return d, v
}

func isNode(t *testing.T, v *volume.Volume, want api.Node) {
	t.Helper()
	if n, e := v.Node(want.Ino); e != api.OK || !reflect.DeepEqual(plain(n), plain(want)) {
		t.Errorf("Node(%d) = %+v, %v; want %+v", want.Ino, n, e, want)
	}
}

// isFree: of From and Count in turn.
func isFree(t *testing.T, v *volume.Volume, numbers ...int) {
	t.Helper()
	var want []api.Span
	for i := 0; i < len(numbers); i += 2 {
		want = append(want, api.Span{From: numbers[i], Count: numbers[i+1]})
	}
	if l := v.State().Free; !slices.Equal(l, want) || v.FreePages() != countOf(want) {
		t.Errorf("free are %v, %d; want %v", l, v.FreePages(), want)
	}
}

func isPage(t *testing.T, v *volume.Volume, ino, off int, want byte, no api.Errno) {
	t.Helper()
	b, e := v.Page(ino, off)
	if e != no || no != api.OK && b != nil || no == api.OK && !bytes.Equal(b, data(want)) {
		t.Errorf("Page(%d, %d) = %v, %v; want %d, %v", ino, off, b, e, want, no)
	}
}

func TestExample1(t *testing.T) {
	_, v := example(t, 1)
	want := api.State{Shape: api.Shape{Pages: 24, Inodes: 8, Cores: 1, Data: 5}, Nodes: []api.Node{{Ino: 1, Kind: api.KindDir, Links: 1}}, Free: []api.Span{{From: 5, Count: 19}}}
	if st := v.State(); !sameState(st, want) || v.Why() != api.ErrAbsent {
		t.Errorf("State = %+v, Why = %v", st, v.Why())
	}
	ino, e := v.NewInode()
	if v.FreePages() != 19 || v.FreeInodes() != 7 || ino != 2 || e != api.OK {
		t.Errorf("%d pages, %d inodes, NewInode = %d, %v", v.FreePages(), v.FreeInodes(), ino, e)
	}
	if n, e := v.Node(2); e != api.ErrNoFile || !reflect.DeepEqual(n, api.Node{}) || len(v.Names(1)) != 0 {
		t.Errorf("Node(2) = %+v, %v; Names(1) = %v", n, e, v.Names(1))
	}
}

func TestExample2(t *testing.T) {
	d, v := example(t, 2)
	isNode(t, v, api.Node{Ino: 1, Kind: api.KindDir, Links: 1, Names: []api.Dent{{Name: "a", Ino: 2}}, Head: 5, Tail: 2688, Log: []int{5}, Entries: 1})
	isNode(t, v, api.Node{Ino: 2, Kind: api.KindFile, Links: 1})
	isFree(t, v, 6, 18)
	if ino, sub := v.Look(1, "a"); ino != 2 || sub {
		t.Errorf("Look = %d, %v", ino, sub)
	}
	if d.Steps() != 13+12+1+2+10 { // an Append of one entry into a new page; a commit of 4 words in 2 lines
		t.Errorf("%d steps", d.Steps())
	}
}

func TestExample3(t *testing.T) {
	d, v := example(t, 3)
	for page, b := range map[int]byte{6: 'X', 7: 'Y'} {
		if got, _ := d.Read(512*page, 512); !bytes.Equal(got, data(b)) {
			t.Errorf("page %d holds %v", page, got)
		}
	}
	isNode(t, v, api.Node{Ino: 2, Kind: api.KindFile, Links: 1, Size: 600, Map: []api.Run{{Off: 0, Page: 6, Count: 2}}, Head: 8, Tail: 8*512 + 128, Log: []int{8}, Entries: 1})
	isFree(t, v, 9, 15)
	isPage(t, v, 2, 0, 'X', api.OK)
	isPage(t, v, 2, 1, 'Y', api.OK)
	isPage(t, v, 2, 5, 0, api.OK)
	isPage(t, v, 2, 512, 0, api.ErrOff)
	isPage(t, v, 1, 0, 0, api.ErrIsDir)
}

func TestExample4(t *testing.T) {
	_, v := example(t, 4)
	isNode(t, v, api.Node{Ino: 2, Kind: api.KindFile, Links: 1, Size: 600, Map: []api.Run{{Off: 0, Page: 6, Count: 1}, {Off: 1, Page: 9, Count: 1}}, Head: 8, Tail: 8*512 + 192, Log: []int{8}, Entries: 2})
	isFree(t, v, 7, 1, 10, 14)
	isPage(t, v, 2, 1, 'Z', api.OK)
}

func TestExample5(t *testing.T) {
	_, v := example(t, 5)
	isNode(t, v, api.Node{Ino: 2, Kind: api.KindFile, Links: 1, Size: 2049, Map: []api.Run{{Off: 0, Page: 6, Count: 1}, {Off: 1, Page: 9, Count: 1}, {Off: 3, Page: 7, Count: 1}, {Off: 4, Page: 10, Count: 1}}, Head: 8, Tail: 8*512 + 320, Log: []int{8}, Entries: 4})
	isFree(t, v, 11, 13)
}

func TestExample6(t *testing.T) {
	d, v := example(t, 6)
	for _, edits := range [][]api.Edit{
		nil, {{Ino: 9}}, {{Ino: 3}}, {{Ino: 1}, {Ino: 1}}, {newFile(2)}, {{Ino: 3, Kind: api.KindFile}}, {newFile(3)},
		{says(1, add("b", 3))}, {{Ino: 2, Links: 2}}, {says(1, drop("q"))}, {frees(2)}, {frees(1)},
		{writes(2, 512, fills('X', 1)...)}, {writes(2, 600, fills('X', 1, 1)...)},
	} {
		refuses(t, d, v, api.ErrEdit, edits...)
	}
}

func TestExample7(t *testing.T) {
	d, v := example(t, 6)
	for _, e := range []api.Edit{{Ino: 2}, {Ino: 2, Links: 1}} {
		still(t, "example 7", d, func() { does(t, v, api.OK, e) })
	}
	does(t, v, api.OK, says(2, size(2049)))
	if n, _ := v.Node(2); n.Entries != 5 || n.Size != 2049 {
		t.Errorf("%+v", n)
	}
}

func TestExample8(t *testing.T) {
	d, v := example(t, 7)
	many := []int{0, 1, 2, 3, 4, 5, 6, 7, 8, 9, 10, 11, 12, 13}
	refuses(t, d, v, api.ErrNoSpace, writes(2, 7168, fills('a', many...)...))
	does(t, v, api.OK, writes(2, 6656, fills('a', many[:13]...)...))
	isNode(t, v, api.Node{Ino: 2, Kind: api.KindFile, Links: 1, Size: 6656, Map: []api.Run{{Off: 0, Page: 11, Count: 13}}, Head: 8, Tail: 8*512 + 64*7, Log: []int{8}, Entries: 6})
	isFree(t, v, 6, 2, 9, 2)
}

func TestExample9(t *testing.T) {
	d, v := example(t, 9)
	isFree(t, v, 6, 18)
	st := v.State()
	if len(st.Nodes) != 1 || st.Nodes[0].Entries != 2 || len(st.Nodes[0].Names) != 0 {
		t.Errorf("%+v", st)
	}
	holds(t, "example 9", d, v)
}

func TestExample10(t *testing.T) {
	d, v := example(t, 9)
	want := v.State()
	if e := v.Unmount(); e != api.OK {
		t.Errorf("Unmount = %v", e)
	}
	closed(t, "example 10", v, api.ErrAbsent)
	w, err := volume.Mount(d, 3, []int{2, 2, 0})
	if err != nil || w.Why() != api.OK || !sameState(w.State(), want) || word(t, d, 128) != 0 {
		t.Errorf("Mount: %v, %v, %+v", err, w.Why(), w.State())
	}
}
