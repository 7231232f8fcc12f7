package mend_test

import (
	"slices"
	"testing"

	"furrow/api"
	"furrow/mend"
	"furrow/replay"
)

// four: the fourth example of the chapter of replay.
func four(t *testing.T) *disk {
	t.Helper()
	d := formatted(t, small)
	d.dir(1, 9, to("a", 2), to("b", 2))
	d.file(2, 2)
	return d
}

func TestExample1(t *testing.T) {
	d := four(t)
	d.breaches("1")
	d.members("1", aFile("a", 0), aLink("b", "a"))
	d.losses("1")
}

func TestExample2(t *testing.T) {
	d := four(t)
	d.file(2, 1)
	d.breaches("2", breach(api.ErrCount, 2))
	d.members("2", aFile("a", 0), aLink("b", "a"))
	d.losses("2")
}

func TestExample3(t *testing.T) {
	d := four(t)
	d.spoil(2)
	d.breaches("3", breach(api.ErrSlot, 2), breach(api.ErrHang, 1))
	d.members("3")
	d.losses("3", loss(api.ErrSlot, 2), unnamed(api.ErrHang, 1, "a"), unnamed(api.ErrHang, 1, "b"))
}

func TestExample4(t *testing.T) {
	d := four(t)
	d.dir(5, 0)
	d.breaches("4", breach(api.ErrCount, 5), breach(api.ErrLost, 5))
	d.members("4", aFile("a", 0), aLink("b", "a"), aDir("lost"), aDir("lost/5"))
	d.losses("4", loss(api.ErrLost, 5))
}

func TestExample5(t *testing.T) {
	d := four(t)
	d.dir(5, 12, to("x", 6))
	d.dir(6, 13, to("y", 5))
	d.breaches("5", breach(api.ErrLost, 5), breach(api.ErrLost, 6))
	d.members("5", aFile("a", 0), aLink("b", "a"), aDir("lost"), aDir("lost/5"), aDir("lost/5/x"))
	d.losses("5", loss(api.ErrLost, 5), unnamed(api.ErrCount, 6, "y"))
}

func TestExample6(t *testing.T) {
	d := four(t)
	d.written(3, 12, write(0, 2, 9, 600))
	d.breaches("6", breach(api.ErrTwice, 9), breach(api.ErrCount, 3), breach(api.ErrLost, 3))
	d.members("6", aFile("a", 0), aLink("b", "a"))
	d.losses("6", loss(api.ErrTwice, 3))
}

func TestExample7(t *testing.T) {
	d := four(t)
	d.spoil(1)
	d.breaches("7", breach(api.ErrSlot, 1), breach(api.ErrRoot, 1), breach(api.ErrCount, 2), breach(api.ErrLost, 2))
	d.members("7", aDir("lost"), aFile("lost/2", 0))
	d.losses("7", loss(api.ErrSlot, 1), loss(api.ErrRoot, 1), loss(api.ErrLost, 2))
}

func TestExample8(t *testing.T) {
	for _, b := range [][]byte{make([]byte, 12288), nil, {}} {
		d := &disk{t: t, b: b}
		d.breaches("8", breach(api.ErrSuper, 0))
		d.members("8")
		d.losses("8", loss(api.ErrSuper, 0))
	}
}

func TestExample9(t *testing.T) {
	d := four(t)
	d.dir(5, 0)
	s := api.Super{Pages: 40, Inodes: 16, Cores: 2}
	anew := empty(t, s)
	losses, err := mend.Mend(anew, s, d.b)
	if err != nil || !slices.Equal(losses, []api.Loss{loss(api.ErrLost, 5)}) {
		t.Fatalf("9: Mend = %v, %v", losses, err)
	}
	state, err := replay.Replay(anew.View())
	if err != nil || len(state.Nodes) != 4 {
		t.Fatalf("9: Replay = %+v, %v", state, err)
	}
	by := map[int]api.Node{}
	for _, n := range state.Nodes {
		by[n.Ino] = n
	}
	root := by[1].Names
	if len(root) != 3 || root[0].Name != "a" || root[1] != to("b", root[0].Ino) || root[2].Name != "lost" {
		t.Fatalf("9: the root's names: %v", root)
	}
	file, home := by[root[0].Ino], by[root[2].Ino]
	if file.Kind != api.KindFile || file.Links != 2 || file.Size != 0 {
		t.Errorf("9: the file: %+v", file)
	}
	if home.Kind != api.KindDir || len(home.Names) != 1 || home.Names[0].Name != "5" {
		t.Fatalf("9: lost: %+v", home)
	}
	if five := by[home.Names[0].Ino]; five.Kind != api.KindDir || len(five.Names) > 0 {
		t.Errorf("9: the directory 5: %+v", five)
	}
}
