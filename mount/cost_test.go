package mount_test

import (
	"testing"
	"time"

	"furrow/api"
	"furrow/mount"
)

// timely: whether a Mount is through in time, many times over what it wants, and answers what Replay does.
func timely(t *testing.T, what string, b []byte, workers int, list []int) {
	t.Helper()
	from := time.Now()
	st, err := mount.Mount(b, workers, list)
	if took := time.Since(from); took > 2*time.Second {
		t.Errorf("%s: took %v", what, took)
	}
	answers(t, what, b, st, err)
}

// long: a device of the largest size whose root has all pages for its log, of names that come and go.
func long(t *testing.T) *disk {
	t.Helper()
	d := formatted(t, api.Shape{Pages: 1024, Inodes: 8, Cores: 1, Data: 5})
	var pages []int
	var es []api.Entry
	for i := range 1019 {
		pages = append(pages, 5+(i*511)%1019)
	}
	for i := range 7*1019 - 1 {
		es = append(es, []api.Entry{add("x", 2), drop("x")}[i%2])
	}
	d.log(1, api.KindDir, 1, pages, es...)
	return d
}

// TestP12_7LongestLog: one log in all pages, which one of many workers goes over alone.
func TestP12_7LongestLog(t *testing.T) {
	d := long(t)
	for _, workers := range []int{1, 2, 64} {
		timely(t, "the longest log", d.b, workers, nil)
	}
	m := machine(t, d.b, 64)
	for w := 63; !m.Done(); w-- {
		m.Step(w)
	}
	if m.Steps() != 8+1019 {
		t.Errorf("%d pieces", m.Steps())
	}
}

// TestP12_6ManyPicks: picks for which there is no piece go by, however many they are.
func TestP12_6ManyPicks(t *testing.T) {
	d := long(t)
	list := make([]int, 3000000)
	for i := range list {
		list[i] = 1 + i%5
	}
	timely(t, "all for others", d.b, 64, append([]int{0}, list...))
	timely(t, "mostly behind the end", d.b, 5, list)
}

// TestP12_7OneHead: all inodes begin at one long log, which is one's own.
func TestP12_7OneHead(t *testing.T) {
	d := formatted(t, large)
	var pages []int
	var es []api.Entry
	for p := large.Data; p < large.Pages; p++ {
		pages = append(pages, p)
		for range 7 {
			es = append(es, sized(9))
		}
	}
	s := d.log(200, api.KindFile, 1, pages, es...)
	for ino := 2; ino <= 256; ino++ {
		d.slot(ino, s)
	}
	for _, workers := range []int{1, 7, 64} {
		timely(t, "one head", d.b, workers, nil)
	}
	m := machine(t, d.b, 64)
	finished(m)
	if m.Steps() != 256+988+254 {
		t.Errorf("%d pieces", m.Steps())
	}
}

// TestP12_7Ring: a log that goes round without end.
func TestP12_7Ring(t *testing.T) {
	d := long(t)
	d.hold(512*(5+(1017*511)%1019), 5)
	timely(t, "a ring", d.b, 3, nil)
	st, err := mount.Mount(d.b, 3, nil)
	told(t, "a ring", st, err, api.CorruptError{Reason: api.ErrLog, Place: 1})
}
