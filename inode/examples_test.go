package inode_test

import (
	"slices"
	"testing"

	"furrow/api"
	"furrow/inode"
)

// means: a list of entries means that node.
func means(t *testing.T, kind int, list []api.Entry, want api.Node) {
	t.Helper()
	if n, e := inode.Replay(kind, list); e != api.OK || !same(n, want) {
		t.Errorf("Replay(%d, %+v) = %+v, %d, want %+v", kind, list, n, e, want)
	}
}

// fails: a list of entries means nothing, for that reason.
func fails(t *testing.T, kind int, list []api.Entry, want api.Errno) {
	t.Helper()
	if n, e := inode.Replay(kind, list); e != want || !same(n, api.Node{}) {
		t.Errorf("Replay(%d, %+v) = %+v, %d, want %d", kind, list, n, e, want)
	}
}

// counted: a node of that many entries.
func counted(n api.Node, entries int) api.Node {
	n.Entries = entries
	return n
}

// numbered: the entries with the Seqs from 1 on.
func numbered(l ...api.Entry) []api.Entry {
	for i := range l {
		l[i].Seq = uint64(i + 1)
	}
	return l
}

func canons(t *testing.T, n api.Node, want []api.Entry) {
	t.Helper()
	if l, e := inode.Canon(n); e != api.OK || !slices.Equal(l, want) {
		t.Errorf("Canon(%+v) = %+v, %d, want %+v", n, l, e, want)
	}
}

func TestExample1(t *testing.T) {
	means(t, api.KindFile, nil, api.Node{Kind: api.KindFile})
	fails(t, api.KindFree, nil, api.ErrMeaning)
	fails(t, 3, nil, api.ErrMeaning)
}

func TestExample2(t *testing.T) {
	l := []api.Entry{write(0, 3, 10, 1536)}
	means(t, api.KindFile, l, counted(file(1536, 0, 10, 3), 1))
	l = append(l, write(1, 1, 99, 1536))
	means(t, api.KindFile, l, counted(file(1536, 0, 10, 1, 1, 99, 1, 2, 12, 1), 2))
	n, _ := inode.Replay(api.KindFile, l)
	canons(t, n, numbered(write(0, 1, 10, 1536), write(1, 1, 99, 1536), write(2, 1, 12, 1536)))
	l = append(l, write(1, 1, 11, 1536))
	means(t, api.KindFile, l, counted(file(1536, 0, 10, 3), 3))
}

func TestExample3(t *testing.T) {
	w := write(0, 3, 10, 1536)
	means(t, api.KindFile, []api.Entry{w, size(600)}, counted(file(600, 0, 10, 2), 2))
	means(t, api.KindFile, []api.Entry{w, size(600), size(1536)}, counted(file(1536, 0, 10, 2), 3))
	means(t, api.KindFile, []api.Entry{w, size(0)}, counted(file(0), 2))
}

func TestExample4(t *testing.T) {
	means(t, api.KindFile, []api.Entry{write(4, 2, 20, 2049)}, counted(file(2049, 4, 20, 1), 1))
	means(t, api.KindFile, []api.Entry{write(4, 2, 20, 100)}, counted(file(100), 1))
	means(t, api.KindFile, []api.Entry{write(4, 2, 20, 0)}, counted(file(0), 1))
}

func TestExample5(t *testing.T) {
	l := numbered(write(0, 16, 10, 16384), write(16, 16, 26, 16384))
	means(t, api.KindFile, l, counted(file(16384, 0, 10, 32), 2))
	n, _ := inode.Replay(api.KindFile, l)
	canons(t, n, l)
}

func TestExample6(t *testing.T) {
	canons(t, file(700), []api.Entry{size(700)})
	n, _ := inode.Replay(api.KindFile, []api.Entry{write(0, 3, 10, 1536), write(1, 1, 99, 1536)})
	if p := inode.Pages(n); !slices.Equal(p, []int{10, 99, 12}) {
		t.Errorf("Pages = %v", p)
	}
}

func TestExample7(t *testing.T) {
	l := []api.Entry{add("b", 3), add("a", 2), add("c", 3)}
	means(t, api.KindDir, l, counted(dir(dent("a", 2), dent("b", 3), dent("c", 3)), 3))
	l = append(l, drop("b"))
	want := counted(dir(dent("a", 2), dent("c", 3)), 4)
	means(t, api.KindDir, l, want)
	canons(t, want, numbered(add("a", 2), add("c", 3)))
	for _, c := range []struct {
		e    api.Entry
		want api.Errno
	}{
		{drop("b"), api.ErrMeaning}, {add("a", 5), api.ErrMeaning}, {size(5), api.ErrMeaning}, {add("", 2), api.ErrEntry}, {add("a", 1), api.ErrEntry},
	} {
		fails(t, api.KindDir, append(slices.Clone(l), c.e), c.want)
	}
}

func TestExample8(t *testing.T) {
	refused(t, file(512, 0, 10, 2), size(1), api.ErrMeaning)
	refused(t, file(1024, 0, 10, 1, 1, 11, 1), size(1), api.ErrMeaning)
	refused(t, file(0, 0, 10, 1), api.Entry{Kind: 7}, api.ErrEntry)
}

func TestExample9(t *testing.T) {
	n := api.Node{Ino: 7, Kind: api.KindDir, Links: 1, Entries: 4, Log: []int{9}}
	want := api.Node{Ino: 7, Kind: api.KindDir, Links: 1, Names: []api.Dent{dent("a", 2)}, Log: []int{9}, Entries: 5}
	if got, e := inode.Apply(n, add("a", 2)); e != api.OK || !same(got, want) {
		t.Errorf("Apply = %+v, %d", got, e)
	}
}
