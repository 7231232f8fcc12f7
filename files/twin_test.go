package files_test

import (
	"bytes"
	"reflect"
	"testing"

	"furrow/api"
	"furrow/files"
	"furrow/pmem"
	"furrow/volume"
)

// A twin is a volume of its own to which the edits are done that the chapter says, put together byte by byte in its words. What the calls do is held against it: the device's bytes, its steps and its doubts.
type twin struct {
	d *pmem.Device
	v *volume.Volume
}

// twinOf: a twin of a device, with as many steps done.
func twinOf(t *testing.T, d *pmem.Device) twin {
	t.Helper()
	m := load(t, d.View())
	w := mounts(t, m)
	for m.Steps() < d.Steps() {
		m.Fence()
	}
	return twin{m, w}
}

// file: the node of a file, or what all four calls refuse first.
func (w twin) file(ino int) (api.Node, api.Errno) {
	n, e := w.v.Node(ino)
	if e == api.OK && n.Kind == api.KindDir {
		return n, api.ErrIsDir
	}
	return n, e
}

// at: a byte of a file, as the chapter has it.
func (w twin) at(n api.Node, i int) byte {
	b, _ := w.v.Page(n.Ino, i/512)
	return b[i%512]
}

func (w twin) read(ino, off, n int) (string, api.Errno) {
	f, e := w.file(ino)
	switch {
	case e != api.OK:
		return "", e
	case off < 0:
		return "", api.ErrOffset
	case n < 0 || n > 4096:
		return "", api.ErrData
	}
	return w.bytes(f, off, n), api.OK
}

func (w twin) bytes(f api.Node, off, n int) string {
	var b, page []byte
	for i := off; len(b) < n && i < f.Size; i++ {
		if i == off || i%512 == 0 {
			page, _ = w.v.Page(f.Ino, i/512)
		}
		b = append(b, page[i%512])
	}
	return string(b)
}

func (w twin) whole(ino int) (string, api.Errno) {
	f, e := w.file(ino)
	if e != api.OK {
		return "", e
	}
	return w.bytes(f, 0, f.Size), api.OK
}

func (w twin) write(ino, off int, data string) api.Errno {
	f, e := w.file(ino)
	switch {
	case e != api.OK:
		return e
	case off < 0:
		return api.ErrOffset
	case len(data) > 4096:
		return api.ErrData
	case off > 262144 || off+len(data) > 262144:
		return api.ErrFBig
	case len(data) == 0:
		return api.OK
	}
	edit := api.Edit{Ino: ino, Size: f.Size}
	end := off + len(data)
	if end > f.Size {
		edit.Size = end
	}
	for p := off / 512; p <= (end-1)/512; p++ {
		page := make([]byte, 512)
		for k := range page {
			i := 512*p + k
			switch {
			case off <= i && i < end:
				page[k] = data[i-off]
			case i < f.Size:
				page[k] = w.at(f, i)
			}
		}
		edit.Fills = append(edit.Fills, api.Fill{Off: p, Data: page})
	}
	return w.v.Do([]api.Edit{edit})
}

func (w twin) truncate(ino, size int) api.Errno {
	f, e := w.file(ino)
	switch {
	case e != api.OK:
		return e
	case size < 0:
		return api.ErrOffset
	case size > 262144:
		return api.ErrFBig
	case size == f.Size:
		return api.OK
	}
	p := size / 512
	hole := true
	for _, m := range mapped(f) {
		hole = hole && m != p
	}
	if size > f.Size || size%512 == 0 || hole {
		return w.v.Do([]api.Edit{{Ino: ino, Entries: []api.Entry{{Kind: api.EntSize, Size: size}}}})
	}
	page := make([]byte, 512)
	for k := range size % 512 {
		page[k] = w.at(f, 512*p+k)
	}
	return w.v.Do([]api.Edit{{Ino: ino, Size: size, Fills: []api.Fill{{Off: p, Data: page}}}})
}

// alike: whether a device is what the twin's is, and its volume too.
func (w twin) alike(t *testing.T, what string, d *pmem.Device, v *volume.Volume) {
	t.Helper()
	if d.Steps() != w.d.Steps() || !bytes.Equal(d.View(), w.d.View()) || !reflect.DeepEqual(d.Doubts(), w.d.Doubts()) {
		t.Fatalf("%s: %d steps, doubts %v; want %d, %v", what, d.Steps(), d.Doubts(), w.d.Steps(), w.d.Doubts())
	}
	if !reflect.DeepEqual(v.State(), w.v.State()) {
		t.Fatalf("%s: the state is\n%+v\nthe twin's is\n%+v", what, v.State(), w.v.State())
	}
}

// writesBeside, truncatesBeside: the same to a volume and its twin.
func writesBeside(t *testing.T, d *pmem.Device, v *volume.Volume, w twin, ino, off int, data string) api.Errno {
	t.Helper()
	e, want := files.Write(v, ino, off, data), w.write(ino, off, data)
	if e != want {
		t.Fatalf("Write(%d, %d, %d bytes) = %v; want %v", ino, off, len(data), e, want)
	}
	w.alike(t, "Write", d, v)
	return e
}

func truncatesBeside(t *testing.T, d *pmem.Device, v *volume.Volume, w twin, ino, size int) api.Errno {
	t.Helper()
	e, want := files.Truncate(v, ino, size), w.truncate(ino, size)
	if e != want {
		t.Fatalf("Truncate(%d, %d) = %v; want %v", ino, size, e, want)
	}
	w.alike(t, "Truncate", d, v)
	return e
}

// readsBeside: whether what is read is what the twin's bytes are, and nothing changes.
func readsBeside(t *testing.T, v *volume.Volume, w twin, ino, off, n int) {
	t.Helper()
	s, e := files.Read(v, ino, off, n)
	if want, f := w.read(ino, off, n); s != want || e != f {
		t.Fatalf("Read(%d, %d, %d) = %d bytes, %v; want %d, %v; they are the same up to %d", ino, off, n, len(s), e, len(want), f, alikeUpTo(s, want))
	}
}
