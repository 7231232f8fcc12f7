package radix

import "testing"

// TestHolesLeaveNoNode: a node without a value below it is let go, by Set and by Cut alike.
func TestHolesLeaveNoNode(t *testing.T) {
	r := New[int]()
	for _, off := range []int{0, 8, 64, 511} {
		r.Set(off, 1)
	}
	r.Set(511, 0)
	if r.root.node[7].node != nil || r.root.node[1].node == nil {
		t.Error("Set leaves a node without a value, or takes one that has some")
	}
	r.Cut(64)
	if r.root.node[1].node != nil || r.root.node[0].node[1].node == nil {
		t.Error("Cut leaves a node without a value, or takes one that has some")
	}
	r.Cut(8)
	if r.root.node[0].node[1].node != nil {
		t.Error("Cut leaves a low node without a value")
	}
	r.Set(0, 0)
	if r.root.node != nil {
		t.Error("a tree of holes has a root")
	}
	r.Set(400, 1)
	r.Cut(0)
	if r.root.node != nil {
		t.Error("a tree that is cut from 0 on has a root")
	}
}

// TestThreeLevels: three nodes stand one below the other on the way to a value, and it is found by the offset's digits to the base 8.
func TestThreeLevels(t *testing.T) {
	r := New[int]()
	for _, off := range []int{0o000, 0o007, 0o123, 0o400, 0o776, 0o777} {
		r.Set(off, off+1)
		low := r.root.node[off/64].node[off/8%8]
		if got := low.node[off%8]; got.v != off+1 || got.node != nil {
			t.Errorf("offset %#o: %v", off, got)
		}
	}
}
