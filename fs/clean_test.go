package fs_test

import (
	"bytes"
	"reflect"
	"testing"

	"furrow/api"
	"furrow/codec"
	"furrow/fs"
	"furrow/pmem"
	"furrow/saved"
)

// putWord: the word at an address is that one, for good.
func putWord(d *pmem.Device, at int, w uint64) {
	d.Store(at, w)
	d.Flush(at)
	d.Fence()
}

// spoil: a way to spoil what a clean unmount of a device with such a state left, and what the next mount must say of it.
type spoil struct {
	what string
	why  api.Errno
	do   func(d *pmem.Device, st api.State)
}

var spoils = []spoil{
	{"nothing", api.OK, func(d *pmem.Device, st api.State) {}},
	{"no clean word", api.ErrAbsent, func(d *pmem.Device, st api.State) { saved.Forget(d) }},
	{"a clean word that isn't sealed", api.ErrAbsent, func(d *pmem.Device, st api.State) { putWord(d, 128, 7) }},
	{"no record", api.ErrSaved, func(d *pmem.Device, st api.State) { putWord(d, 1024, 0) }},
	{"an older record", api.ErrStale, func(d *pmem.Device, st api.State) { putWord(d, 128, codec.Seal(128, 77)) }},
	{"fewer free pages", api.ErrDiffers, func(d *pmem.Device, st api.State) { saved.Save(d, st.Free[1:]) }},
	{"the same again", api.OK, func(d *pmem.Device, st api.State) { saved.Save(d, st.Free) }},
	{"more free pages", api.ErrDiffers, func(d *pmem.Device, st api.State) {
		saved.Save(d, []api.Span{{From: st.Shape.Data, Count: st.Shape.Pages - st.Shape.Data}})
	}},
}

// TestT5Clean: behind a clean unmount the record is taken; where it is spoilt the mount goes without it, with the same state: the same tree, and from then on the same bytes.
func TestT5Clean(t *testing.T) {
	r := chance()
	for _, s := range []api.Super{small, middling, large} {
		d, f := fresh(t, s)
		p := newPlain(s)
		var ops []op
		for i := 0; i < 80 && freeOf(t, d) > 10; i++ {
			o := drawnOp(r, p)
			if out := p.asked(o); asks(t, f, o).e == api.OK && out.change != nil {
				out.change()
				ops = append(ops, o)
			}
		}
		st := replayed(t, d.View())
		did(t, f, op{name: "unmount"})
		var next []op
		for range 30 {
			next = append(next, drawnOp(r, p))
		}
		var first []byte
		for _, c := range spoils {
			e := load(t, d.View())
			c.do(e, st)
			g, err := fs.Mount(e, 1+r.Intn(64), []int{r.Intn(70)})
			if err != nil || g.Why() != c.why {
				t.Fatalf("%v, %s: Mount: %v, Why %v; want %v", s, c.what, err, g.Why(), c.why)
			}
			isPlain(t, g, p)
			if !reflect.DeepEqual(replayed(t, e.View()), st) || informed(t, g).FreePages != freeOf(t, e) {
				t.Fatalf("%v, %s: the state is another one", s, c.what)
			}
			q := grown(s, ops)
			for _, o := range next {
				if out := q.asked(o); asks(t, g, o).e == api.OK && out.change != nil {
					out.change()
				}
			}
			isPlain(t, g, q)
			left := e.View()
			copy(left[1024:2048], make([]byte, 1024)) // the record itself is spoilt in many ways
			if first == nil {
				first = left
			}
			if !bytes.Equal(left, first) {
				t.Fatalf("%v, %s: what is done behind the mount went to other pages", s, c.what)
			}
		}
	}
}

// TestT5Again: the record counts for one mount; what was done behind it without an unmount isn't mistaken for it.
func TestT5Again(t *testing.T) {
	d, f, p := furnished(t)
	for range 5 {
		did(t, f, op{name: "unmount"})
		f = mounts(t, d)
		if f.Why() != api.OK {
			t.Fatalf("Why = %v", f.Why())
		}
		o := write("/f", 0, "new page")
		did(t, f, o)
		p.does(o)
		g := mounts(t, load(t, d.Crash(nil)))
		if g.Why() != api.ErrAbsent {
			t.Fatalf("Why = %v", g.Why())
		}
		isPlain(t, g, p)
	}
}

// TestT5Spans: a record has at most 249 spans; with more of them the device is left without one.
func TestT5Spans(t *testing.T) {
	s := api.Super{Pages: 1024, Inodes: 8, Cores: 1}
	d, f := fresh(t, s)
	ops := []op{create("/a"), create("/b"), create("/c")}
	for i := range 260 {
		ops = append(ops, write("/a", 512*i, "a"), write("/b", 512*i, "b"))
	}
	ops = append(ops, unlink("/b"))
	did(t, f, ops...)
	p := grown(s, ops)
	seen := map[int]api.Errno{}
	for i := 0; seen[248] == 0 && i < 100; i++ {
		spans := len(replayed(t, d.View()).Free)
		e := load(t, d.View())
		did(t, mounts(t, e), op{name: "unmount"})
		g := mounts(t, e)
		want := api.OK
		if spans > api.MaxSpans {
			want = api.ErrAbsent
		}
		if g.Why() != want {
			t.Fatalf("%d spans: Why = %v; want %v", spans, g.Why(), want)
		}
		if seen[spans] = -1; spans == 249 || spans == 250 {
			isPlain(t, g, p)
		}
		o := write("/c", 512*i, "c")
		did(t, f, o)
		p.does(o)
	}
	if seen[248] == 0 || seen[249] == 0 || seen[250] == 0 || seen[251] == 0 {
		t.Errorf("both sides of the edge were to be seen: %v", seen)
	}
}
