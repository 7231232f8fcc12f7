package replay_test

import (
	"strconv"
	"testing"
	"time"

	"furrow/api"
	"furrow/replay"
)

// timely: whether a Replay is through in time, many times over what it wants.
func timely(t *testing.T, what string, b []byte) (api.State, error) {
	t.Helper()
	from := time.Now()
	st, err := replay.Replay(b)
	if took := time.Since(from); took > 2*time.Second {
		t.Errorf("%s: took %v", what, took)
	}
	return st, err
}

// TestP11_7LongestLog: one log in all pages of the largest device: names that come, and go, and come.
func TestP11_7LongestLog(t *testing.T) {
	sh := api.Shape{Pages: 1024, Inodes: 8, Cores: 1, Data: 5}
	d := formatted(t, sh)
	var pages []int
	var es []api.Entry
	for i := range 1019 {
		pages = append(pages, 5+(i*511)%1019)
	}
	for i := range 7*1019 - 1 {
		es = append(es, add("n"+strconv.Itoa(i), 2+i%7))
	}
	d.log(1, api.KindDir, 1, pages, es...)
	if _, err := timely(t, "names", d.b); err == nil || *err.(*api.CorruptError) != (api.CorruptError{Reason: api.ErrHang, Place: 1}) {
		t.Errorf("names: %v", err)
	}
	for i := range es {
		es[i] = []api.Entry{add("x", 2), drop("x")}[i%2]
	}
	d.log(1, api.KindDir, 1, pages, es...)
	st, err := timely(t, "to and fro", d.b)
	if err != nil || len(st.Free) != 0 || st.Nodes[0].Entries != 7*1019-1 || len(st.Nodes[0].Names) != 0 {
		t.Errorf("to and fro: %v, %v", st.Free, err)
	}
}

// TestP11_7Writes: writes of 16 pages one over the other in a log of all pages but some.
func TestP11_7Writes(t *testing.T) {
	sh := api.Shape{Pages: 1024, Inodes: 8, Cores: 1, Data: 5}
	d := formatted(t, sh)
	d.log(1, api.KindDir, 1, []int{5}, add("f", 2))
	var pages []int
	var es []api.Entry
	for p := 6; p < 1000; p++ {
		pages = append(pages, p)
	}
	for i := range 7 * len(pages) {
		es = append(es, write(i%497, 16, 1000, 262144))
	}
	es[len(es)-1] = sized(0) // one page can't stand at several of a file's
	d.log(2, api.KindFile, 1, pages, es...)
	st, err := timely(t, "writes", d.b)
	if err != nil || len(st.Free) != 1 || st.Free[0] != (api.Span{From: 1000, Count: 24}) {
		t.Errorf("writes: %v, %v", st.Free, err)
	}
}

// TestP11_7OneHead: all inodes begin at one long log, which is one's own: the others break on its first page.
func TestP11_7OneHead(t *testing.T) {
	d := formatted(t, large)
	var pages []int
	var es []api.Entry
	for p := large.Data; p < large.Pages; p++ {
		pages = append(pages, p)
		for range 7 {
			es = append(es, sized(9))
		}
	}
	s := d.log(200, api.KindFile, 1, pages, es...)
	for ino := 201; ino <= 256; ino++ {
		d.slot(ino, s)
	}
	corruptIn(t, "the rest", d.b, api.ErrHeader, 201)
	for ino := 2; ino < 200; ino++ {
		d.slot(ino, s)
	}
	corruptIn(t, "all", d.b, api.ErrHeader, 2)
}

func corruptIn(t *testing.T, what string, b []byte, reason api.Errno, place int) {
	t.Helper()
	timely(t, what, b)
	corrupt(t, what, b, reason, place)
}

// TestP11_7Ring: a log that goes round without end.
func TestP11_7Ring(t *testing.T) {
	d := formatted(t, large)
	var pages []int
	var es []api.Entry
	for p := large.Data; p < large.Pages-1; p++ {
		pages = append(pages, p)
		for range 7 {
			es = append(es, sized(9))
		}
	}
	d.log(2, api.KindFile, 1, pages, es...)
	d.hold(512*(large.Pages-2), large.Data)
	d.slot(2, api.Slot{Kind: api.KindFile, Links: 1, Head: large.Data, Tail: 512*(large.Pages-1) + 128})
	corruptIn(t, "a ring", d.b, api.ErrLog, 2)
}
