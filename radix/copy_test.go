package radix_test

import "testing"

// TestP7_7Copy: the same values, of trees of many forms.
func TestP7_7Copy(t *testing.T) {
	for _, offs := range some() {
		r, m := grown(t, offs...)
		c := r.Copy()
		if c == r || c == nil {
			t.Fatal("Copy gives no tree of its own")
		}
		m.agree(t, "the copy", c)
		m.agree(t, "the tree", r)
	}
}

// TestP7_7NotSeen: what is done to the one is not seen in the other, either way, nor in a copy's copy.
func TestP7_7NotSeen(t *testing.T) {
	for _, offs := range some() {
		r, m := grown(t, offs...)
		c := r.Copy()
		d := c.Copy()
		of, mc, md := *m, *m, *m
		for _, off := range edges {
			of.put(t, r, off, 1+off)
			of.agree(t, "the tree", r)
			mc.agree(t, "the copy", c)
		}
		for _, off := range edges {
			mc.put(t, c, off^8, 0)
			mc.put(t, c, off^64, 3)
			of.agree(t, "the tree", r)
			mc.agree(t, "the copy", c)
		}
		c.Cut(200)
		mc.cut(200)
		r.Cut(64)
		of.cut(64)
		of.agree(t, "the tree, cut", r)
		mc.agree(t, "the copy, cut", c)
		md.agree(t, "the copy's copy", d)
	}
}

// TestP7_7Amid: a copy that is taken amid a loop has what the tree has then.
func TestP7_7Amid(t *testing.T) {
	r, m := grown(t, edges...)
	for off := range r.From(0) {
		m.put(t, r, off, 0)
		m.put(t, r, (off+100)%512, 9)
		m.agree(t, "a copy amid a loop", r.Copy())
	}
}
