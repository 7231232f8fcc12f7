package layout_test

import (
	"bytes"
	"fmt"
	"math"
	"slices"
	"testing"

	"furrow/api"
	"furrow/layout"
)

// spans: of From and Count in turn.
func spans(numbers ...int) []api.Span {
	list := []api.Span{}
	for i := 0; i < len(numbers); i += 2 {
		list = append(list, api.Span{From: numbers[i], Count: numbers[i+1]})
	}
	return list
}

// apart: n spans of one page each, with one page between them.
func apart(n int) []api.Span {
	var list []api.Span
	for i := range n {
		list = append(list, api.Span{From: 5 + 2*i, Count: 1})
	}
	return list
}

// goodSaved: the chapter's words, page by page: the pages rise, and between two spans at least one is left out.
func goodSaved(r api.Saved) bool {
	if r.Stamp == 0 || len(r.Spans) > 249 {
		return false
	}
	last := 0
	for i, s := range r.Spans {
		if s.Count < 1 || s.Count > 1024 || !isData(s.From) || !isData(s.From+s.Count-1) {
			return false
		}
		if i > 0 && s.From < last+2 {
			return false
		}
		last = s.From + s.Count - 1
	}
	return true
}

// savedRecord: the 24 + 4n bytes that the chapter says.
func savedRecord(r api.Saved) []byte {
	head := join([]byte("FURROWSV"), low(uint64(r.Stamp), 4), make([]byte, 4), low(uint64(len(r.Spans)), 4))
	var tail []byte
	for _, s := range r.Spans {
		tail = join(tail, low(uint64(s.From), 2), low(uint64(s.Count), 2))
	}
	return join(head, low(uint64(sum(join(head, tail))), 4), tail)
}

// resummed: the record's bytes with the right sum for them.
func resummed(b []byte) []byte {
	own := slices.Clone(b)
	copy(own[20:], low(uint64(sum(join(own[:20], own[24:]))), 4))
	return own
}

func packsSaved(t *testing.T, r api.Saved) {
	t.Helper()
	want, f := []byte(nil), api.ErrSaved
	if goodSaved(r) {
		want, f = savedRecord(r), api.OK
		if len(r.Spans)%2 == 1 {
			want = join(want, make([]byte, 4))
		}
	}
	b, e := layout.PackSaved(r)
	if !bytes.Equal(b, want) || e != f {
		t.Errorf("PackSaved(%+v) = %x, %v, want %x, %v", r, b, e, want, f)
	}
}

func opensSaved(t *testing.T, what string, b []byte, want api.Saved, f api.Errno) {
	t.Helper()
	r, e := layout.OpenSaved(b)
	if r.Stamp != want.Stamp || !slices.Equal(r.Spans, want.Spans) || e != f {
		t.Errorf("%s: OpenSaved(%x) = %+v, %v, want %+v, %v", what, b, r, e, want, f)
	}
}

var goodRecords = []api.Saved{
	{Stamp: 1},
	{Stamp: 7, Spans: spans()},
	{Stamp: math.MaxUint32, Spans: spans(5, 3, 9, 1)},
	{Stamp: 1 << 31, Spans: spans(5, 1019)},
	{Stamp: 0x01020304, Spans: spans(1023, 1)},
	{Stamp: 7, Spans: spans(5, 1, 7, 300, 0x155, 0x201, 1020, 4)},
	{Stamp: 7, Spans: apart(248)},
	{Stamp: 8, Spans: apart(249)},
}

var badRecords = []api.Saved{
	{},
	{Stamp: 0, Spans: spans(5, 3)},
	{Stamp: 7, Spans: apart(250)},
	{Stamp: 7, Spans: apart(500)},
	{Stamp: 7, Spans: spans(5, 0)},
	{Stamp: 7, Spans: spans(5, 3, 9, 0)},
	{Stamp: 7, Spans: spans(4, 1)},
	{Stamp: 7, Spans: spans(0, 1)},
	{Stamp: 7, Spans: spans(0, 0)},
	{Stamp: 7, Spans: spans(4, 2)},
	{Stamp: 7, Spans: spans(1024, 1)},
	{Stamp: 7, Spans: spans(1023, 2)},
	{Stamp: 7, Spans: spans(5, 1020)},
	{Stamp: 7, Spans: spans(5, 3, 8, 1)},
	{Stamp: 7, Spans: spans(5, 3, 7, 1)},
	{Stamp: 7, Spans: spans(5, 3, 5, 3)},
	{Stamp: 7, Spans: spans(9, 1, 5, 1)},
	{Stamp: 7, Spans: spans(5, 1, 9, 1, 7, 1)},
	{Stamp: 7, Spans: spans(5, 100, 50, 1)},
}

func TestP3_13PackSaved(t *testing.T) {
	for i, r := range goodRecords {
		if !goodSaved(r) {
			t.Fatalf("good record %d is not good", i)
		}
		packsSaved(t, r)
	}
	for i, r := range badRecords {
		if goodSaved(r) {
			t.Fatalf("bad record %d is good", i)
		}
		packsSaved(t, r)
	}
}

func TestP3_13EveryEdgeOfASpan(t *testing.T) {
	for _, from := range pages {
		for _, count := range append([]int{0, 1, 2, 24, 524, 1018, 1019, 1020, 1024, 65535, 65536, 65537}, wild...) {
			packsSaved(t, api.Saved{Stamp: 3, Spans: spans(from, count)})
			packsSaved(t, api.Saved{Stamp: 3, Spans: spans(5, 1, from, count)})
			packsSaved(t, api.Saved{Stamp: 3, Spans: spans(from, count, 1023, 1)})
		}
	}
}

func TestP3_13Lengths(t *testing.T) {
	for n := range 300 {
		r := api.Saved{Stamp: 9, Spans: apart(n)}
		packsSaved(t, r)
		b, e := layout.PackSaved(r)
		if n <= 249 && (e != api.OK || len(b)%8 != 0 || len(b) > api.SavedSize || len(b) < 24+4*n) {
			t.Errorf("%d spans: %d bytes, %v", n, len(b), e)
		}
	}
}

func TestP3_14OpensWhatIsGood(t *testing.T) {
	for i, r := range goodRecords {
		what := fmt.Sprintf("good record %d", i)
		b := savedRecord(r)
		for _, behind := range [][]byte{nil, {1}, make([]byte, 4), bytes.Repeat([]byte{0xFF}, 1024)} {
			opensSaved(t, what, join(b, behind), r, api.OK)
		}
	}
}

func TestP3_14TooShort(t *testing.T) {
	for i, r := range goodRecords {
		b := savedRecord(r)
		for n := range b {
			opensSaved(t, fmt.Sprintf("good record %d, %d bytes of it", i, n), b[:n:n], api.Saved{}, api.ErrSaved)
			opensSaved(t, fmt.Sprintf("good record %d, %d bytes of it, the others in its spare room", i, n), b[:n], api.Saved{}, api.ErrSaved)
		}
	}
	opensSaved(t, "nil", nil, api.Saved{}, api.ErrSaved)
	opensSaved(t, "zeros", make([]byte, 1024), api.Saved{}, api.ErrSaved)
}

func TestP3_14NotGood(t *testing.T) {
	for i, r := range badRecords {
		b := savedRecord(r)
		opensSaved(t, fmt.Sprintf("bad record %d", i), join(b, make([]byte, 64)), api.Saved{}, api.ErrSaved)
	}
}

func TestP3_14SpoiltBytes(t *testing.T) {
	for i, r := range goodRecords[:6] {
		b := join(savedRecord(r), make([]byte, 1024))
		for at := range savedRecord(r) {
			for _, turn := range []byte{1, 16, 128, 255} {
				bad := slices.Clone(b)
				bad[at] ^= turn
				opensSaved(t, fmt.Sprintf("good record %d, byte %d", i, at), bad, api.Saved{}, api.ErrSaved)
			}
		}
	}
}

func TestP3_14LettersAndZeros(t *testing.T) {
	for i, r := range goodRecords {
		for _, at := range []int{0, 1, 2, 3, 4, 5, 6, 7, 12, 13, 14, 15} {
			for _, turn := range []byte{1, 32, 128} {
				bad := savedRecord(r)
				bad[at] ^= turn
				opensSaved(t, fmt.Sprintf("good record %d, byte %d, with its sum", i, at), resummed(bad), api.Saved{}, api.ErrSaved)
			}
		}
	}
}

func TestP3_14NumberOfSpans(t *testing.T) {
	b := savedRecord(api.Saved{Stamp: 7, Spans: apart(500)})
	for _, n := range []uint32{0, 1, 248, 249, 250, 500, 501, 1 << 16, 1 << 30, 1<<30 + 1, 1 << 31, math.MaxUint32} {
		copy(b[16:], low(uint64(n), 4))
		whole := b[:24+4*min(int(n), 500)]
		want, f := api.Saved{}, api.ErrSaved
		if n <= 249 {
			want, f = api.Saved{Stamp: 7, Spans: apart(int(n))}, api.OK
		}
		opensSaved(t, fmt.Sprintf("%d spans", n), join(resummed(whole), make([]byte, 64)), want, f)
	}
}

func TestP3_14EverySpanAnew(t *testing.T) {
	r := chance()
	for range 20000 {
		own := api.Saved{Stamp: 5, Spans: slices.Clone(goodRecords[5].Spans)}
		for range 1 + r.Intn(2) {
			i := r.Intn(len(own.Spans))
			own.Spans[i] = api.Span{From: pick(r, []int{0, 4, 5, 6, 7, 8, 307, 308, 309, 341, 854, 855, 1019, 1020, 1022, 1023, 1024, 65535}), Count: pick(r, []int{0, 1, 2, 3, 4, 5, 299, 300, 301, 400, 1019, 65535})}
		}
		want, f := own, api.OK
		if !goodSaved(own) {
			want, f = api.Saved{}, api.ErrSaved
		}
		opensSaved(t, "drawn", savedRecord(own), want, f)
	}
}
