package names_test

import (
	"testing"

	"furrow/api"
	"furrow/names"
)

// put, drop, counts: steps of the examples.
func put(t *testing.T, x *names.Index, dir int, name string, ino int, want api.Errno) {
	t.Helper()
	if e := x.Put(dir, name, ino); e != want {
		t.Errorf("Put(%d, %q, %d) = %d, want %d", dir, name, ino, e, want)
	}
}

func drop(t *testing.T, x *names.Index, dir int, name string, want int, e api.Errno) {
	t.Helper()
	if ino, f := x.Drop(dir, name); ino != want || f != e {
		t.Errorf("Drop(%d, %q) = %d, %d, want %d, %d", dir, name, ino, f, want, e)
	}
}

func counts(t *testing.T, what string, got ...int) {
	t.Helper()
	for i := 0; i < len(got); i += 2 {
		if got[i] != got[i+1] {
			t.Errorf("%s, number %d: %d, want %d", what, i/2, got[i], got[i+1])
		}
	}
}

// TestExamples1To4: one index, from its beginning on.
func TestExamples1To4(t *testing.T) {
	x := names.New()
	put(t, x, 1, "b", 3, api.OK)
	put(t, x, 1, "a", 3, api.OK)
	put(t, x, 3, "a", 2, api.OK)
	same(t, "example 1", x.List(1), []api.Dent{{Name: "a", Ino: 3}, {Name: "b", Ino: 3}})
	counts(t, "example 1", x.Links(3), 2, x.Links(2), 1, x.Len(1), 2, x.Len(3), 1, x.Len(2), 0)

	put(t, x, 1, "a", 4, api.ErrHave)
	counts(t, "example 2", x.Get(1, "a"), 3)
	put(t, x, 0, "", 4, api.ErrInode)
	put(t, x, 1, "", 4, api.ErrName)
	put(t, x, 1, "a/b", 4, api.ErrName)
	put(t, x, 1, "c", 257, api.ErrInode)

	drop(t, x, 1, "a", 3, api.OK)
	drop(t, x, 1, "a", 0, api.ErrNone)
	drop(t, x, -7, "?", 0, api.ErrNone)
	put(t, x, 1, "a", 1, api.OK)

	same(t, "example 4", x.List(1), []api.Dent{{Name: "a", Ino: 1}, {Name: "b", Ino: 3}})
	counts(t, "example 4", x.Clear(1), 2, x.Links(1), 0, x.Links(3), 0, x.Get(3, "a"), 2)
}

func TestExample5(t *testing.T) {
	x := names.New()
	for _, name := range []string{"ab", "a", "b", "a\xff", "B"} {
		put(t, x, 8, name, 2, api.OK)
	}
	want := []string{"B", "a", "ab", "a\xff", "b"}
	for i, d := range x.List(8) {
		if d.Name != want[i] || d.Ino != 2 {
			t.Errorf("at %d: %q, want %q", i, d.Name, want[i])
		}
	}
	counts(t, "example 5", x.Len(8), 5)
}
