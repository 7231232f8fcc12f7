package ship_test

import (
	"testing"

	"furrow/api"
	"furrow/ship"
)

// tree: the list of the chapter's second example.
func tree() []api.Member { return of(dir("d"), file("d/f", "hello"), link("g", "d/f")) }

// treeSteps: the steps that make it.
func treeSteps() []api.Step {
	return []api.Step{mkdir("/d"), create("/d/f"), write("/d/f", 0, "hello"), linked("/d/f", "/g")}
}

func TestExample1(t *testing.T) {
	none := made(t)
	if l, e := ship.Plan(nil, nil); l != nil || e != api.ErrFrom {
		t.Errorf("Plan(nil, nil) = %v, %v", l, e)
	}
	if l, e := ship.Plan(none, nil); l != nil || e != api.ErrTo {
		t.Errorf("Plan to nil = %v, %v", l, e)
	}
	plans(t, nil, nil)
}

func TestExamples2to8(t *testing.T) {
	plans(t, nil, tree(), treeSteps()...)
	plans(t, tree(), nil, unlink("/g"), unlink("/d/f"), rmdir("/d"))
	hello := of(file("a", "hello"))
	plans(t, hello, of(file("a", "help")), truncate("/a", 4), write("/a", 0, "help"))
	plans(t, hello, of(file("a", "hell")), truncate("/a", 4))
	plans(t, hello, of(file("a", "hello"+zeros(600))), truncate("/a", 605))
	plans(t, hello, of(file("a", zeros(512)+"x")), write("/a", 0, zeros(512)), write("/a", 512, "x"))
	plans(t, of(file("a", "x")), of(dir("a")), unlink("/a"), mkdir("/a"))
	plans(t, of(dir("a"), file("a/b", "")), of(file("a", "")), unlink("/a/b"), rmdir("/a"), create("/a"))
	plans(t, of(file("a", "x"), link("b", "a")), of(file("b", "x")), unlink("/b"), unlink("/a"), create("/b"), write("/b", 0, "x"))
	plans(t, of(file("a", "x"), file("b", "x")), of(file("a", "x"), link("b", "a")), unlink("/b"), linked("/a", "/b"))
	plans(t, nil, of(file("z", zeros(1000))), create("/z"), truncate("/z", 1000))
}

func TestExample9(t *testing.T) {
	for what, c := range map[string]struct {
		list []api.Step
		want int
	}{
		"example 2": {treeSteps(), 6}, "four bytes of two pages": {[]api.Step{write("/a", 510, "abcd")}, 4},
		"below 0": {[]api.Step{write("/a", -1, "x")}, 0}, "stat": {[]api.Step{{Kind: api.StepStat, A: "/a"}}, 0}, "nothing": {nil, 0},
	} {
		if n := ship.Room(c.list); n != c.want {
			t.Errorf("Room of %s = %d; want %d", what, n, c.want)
		}
	}
}

func TestExample10(t *testing.T) {
	_, f := fresh(t, small)
	list := planned(t, made(t), made(t, tree()...))
	applied(t, "example 2", f, list)
	is(t, "example 2", f, made(t, tree()...))
	applyTells(t, f, list, 0, "mkdir", "/d", api.ErrExist)
	applyRefuses(t, f, []api.Step{create("/k"), {Kind: api.StepStat, A: "/k"}}, 1)
	if _, err := f.Stat("/k"); err != nil {
		t.Errorf("Stat: %v", err)
	}
	applied(t, "no steps", f, nil)
}
