package fs_test

import (
	"bytes"
	"reflect"
	"testing"

	"furrow/api"
	"furrow/fs"
	"furrow/pmem"
	"furrow/volume"
)

// beside: a file system, the plain tree that it must be, and a volume to which the one call of a lower layer is done that the chapter says.
type beside struct {
	d    *pmem.Device
	f    *fs.FS
	p    *plain
	twin *pmem.Device
	v    *volume.Volume
}

// besideOf: of a device that means a plain tree.
func besideOf(t *testing.T, image []byte, p *plain) *beside {
	t.Helper()
	b := &beside{d: load(t, image), twin: load(t, image), p: p}
	b.mounts(t)
	return b
}

// mounts: both are mounted anew.
func (b *beside) mounts(t *testing.T) {
	t.Helper()
	b.f = mounts(t, b.d)
	v, err := volume.Mount(b.twin, 1, nil)
	if err != nil {
		t.Fatal("Mount", err)
	}
	b.v = v
}

// does: an operation on all three. Its answer is the plain tree's, or ErrNoSpace within R10; the device is the twin's, byte by byte and step by step. What it answered.
func (b *beside) does(t *testing.T, o op) api.Errno {
	t.Helper()
	free, steps := freeOf(t, b.d), b.d.Steps()
	got, want := asks(t, b.f, o), b.p.asked(o)
	if got.e != api.OK && b.d.Steps() != steps {
		t.Fatalf("%v = %v, and it did steps", o, got.e)
	}
	if o.name == "info" {
		want.info.FreePages = free
	}
	if got.e == api.ErrNoSpace && want.e == api.OK && want.change != nil {
		if free >= o.cost() {
			t.Fatalf("%v: no space, and %d pages are free", o, free)
		}
		want.answer, want.change = answer{e: api.ErrNoSpace}, nil
	}
	if !got.is(want.answer) {
		t.Fatalf("%v = %+v; want %+v", o, got, want.answer)
	}
	if want.below != nil {
		if e := want.below(b.v); e != got.e {
			t.Fatalf("%v = %v; the layer below answers %v", o, got.e, e)
		}
	}
	if want.change != nil {
		want.change()
	}
	b.alike(t, o.String())
	return got.e
}

// alike: whether the device is what the twin's is.
func (b *beside) alike(t *testing.T, what string) {
	t.Helper()
	d, w := b.d, b.twin
	if d.Steps() != w.Steps() || !bytes.Equal(d.View(), w.View()) || len(d.Doubts()) != 0 {
		t.Fatalf("%s: %d steps, doubts %v; want %d, none; or other bytes", what, d.Steps(), d.Doubts(), w.Steps())
	}
}

// isPlain: whether a file system's tree is the plain one, with every byte of its files.
func isPlain(t *testing.T, f *fs.FS, p *plain) {
	t.Helper()
	got, want := walked(t, f), p.items()
	if !reflect.DeepEqual(got, want) {
		t.Fatalf("Walk tells\n%+v\nwant\n%+v", got, want)
	}
	for _, i := range want {
		if len(i.Path) > api.MaxPath {
			continue
		}
		asked := []op{stat(i.Path), readdir(i.Path)}
		for off := 0; off < i.Stat.Size && i.Stat.Kind == api.KindFile; off += 4096 {
			asked = append(asked, read(i.Path, off, 4096))
		}
		for _, o := range asked {
			if got, want := asks(t, f, o), p.asked(o).answer; !got.is(want) {
				t.Fatalf("%v = %+v; want %+v", o, got, want)
			}
		}
	}
}
