package fs

import (
	"testing"

	"furrow/api"
)

// TestP18_1Once: what has an operation and a path already keeps them; OK and nil are no errors.
func TestP18_1Once(t *testing.T) {
	first := named(api.ErrNoEnt, "stat", "/a")
	if p, is := first.(*api.PathError); !is || *p != (api.PathError{Op: "stat", Path: "/a", Err: api.ErrNoEnt}) {
		t.Fatalf("%T %v", first, first)
	}
	if again := named(first, "read", "/b"); again != first {
		t.Errorf("it is wrapped again: %v", again)
	}
	if err := named(nil, "stat", "/a"); err != nil {
		t.Errorf("nil is told as %T %v", err, err)
	}
	if err := named(api.OK, "stat", "/a"); err != nil {
		t.Errorf("OK is told as %T %v", err, err)
	}
}
