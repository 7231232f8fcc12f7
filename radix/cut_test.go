package radix_test

import (
	"slices"
	"testing"

	"furrow/radix"
)

// TestP7_4EachFrom: from every number on, of trees of many forms: the values that were there, rising, and holes behind.
func TestP7_4EachFrom(t *testing.T) {
	for _, offs := range some() {
		whole, was := grown(t, offs...)
		for from := -3; from <= 515; from++ {
			r, m := whole.Copy(), *was
			got, want := r.Cut(from), m.cut(from)
			if !slices.Equal(got, want) {
				t.Fatalf("Cut(%d) = %v, want %v", from, got, want)
			}
			m.agree(t, "behind Cut", r)
			if l := r.Cut(from); len(l) != 0 {
				t.Fatalf("Cut(%d) again = %v", from, l)
			}
		}
		was.agree(t, "the tree that was copied", whole)
	}
}

// TestP7_4Wild: all below 0, none above 511, however far.
func TestP7_4Wild(t *testing.T) {
	for _, from := range wild {
		r, m := grown(t, edges...)
		if got, want := r.Cut(from), m.cut(from); !slices.Equal(got, want) {
			t.Fatalf("Cut(%d) = %v, want %v", from, got, want)
		}
		m.agree(t, "behind Cut", r)
	}
}

// TestP7_4SetAgain: what was cut away can be set again, and is cut away by the next one alone.
func TestP7_4SetAgain(t *testing.T) {
	r, m := grown(t, every()...)
	for _, from := range []int{500, 449, 448, 64, 63, 9, 8, 1, 0} {
		if got, want := r.Cut(from), m.cut(from); !slices.Equal(got, want) {
			t.Fatalf("Cut(%d) = %v, want %v", from, got, want)
		}
		m.put(t, r, from, 5)
		m.put(t, r, 511, 6)
		m.agree(t, "set again", r)
	}
}

// TestP7_4OtherValues: values that are alike are each told.
func TestP7_4OtherValues(t *testing.T) {
	r := radix.New[string]()
	for _, off := range []int{300, 2, 64, 63} {
		r.Set(off, "same")
	}
	r.Set(100, "other")
	if l := r.Cut(3); !slices.Equal(l, []string{"same", "same", "other", "same"}) {
		t.Errorf("Cut(3) = %q", l)
	}
	if r.Len() != 1 || r.Get(2) != "same" {
		t.Errorf("behind Cut(3): Len %d, %q", r.Len(), r.Get(2))
	}
}
