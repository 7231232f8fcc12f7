package archive_test

import (
	"bytes"
	"errors"
	"math/rand"
	"strconv"
	"strings"
	"testing"

	"furrow/api"
	"furrow/archive"
	"furrow/fs"
	"furrow/pmem"
	"furrow/volume"
)

// isPacked: whether Pack answers the bytes of a list, twice, and does nothing to the device.
func isPacked(t *testing.T, what string, d *pmem.Device, f *fs.FS, list []api.Member) {
	t.Helper()
	still(t, what, d, func() {
		for range 2 {
			if b := packed(t, f); !bytes.Equal(b, bytesOf(list)) {
				back, e := archive.Open(b)
				t.Fatalf("P21.5: %s: Pack answers the bytes of%s\n(%v); want%s", what, shown(back), e, shown(list))
			}
		}
	})
}

// P21.5: a closed file system, by an unmount and by a device that died.
func TestP21_5Closed(t *testing.T) {
	d, f := fresh(t, small)
	did(t, f.Create("/a"), f.Unmount())
	still(t, "Pack", d, func() { packTells(t, f, api.ErrClosed) })
	d, f = fresh(t, small)
	did(t, f.Create("/a"))
	if e := d.Arm(0); e != api.OK {
		t.Fatal(e)
	}
	isPacked(t, "a device whose death nobody has met", d, f, []api.Member{file("a", 0)})
	if err := f.Write("/a", 0, "x"); !errors.Is(err, api.ErrDead) {
		t.Fatal(err)
	}
	still(t, "Pack", d, func() { packTells(t, f, api.ErrClosed) })
}

// P21.5: a path of 200 bytes is taken, with its slash; a longer one isn't, wherever it stands.
func TestP21_5PathLong(t *testing.T) {
	long := func(n int) string { return strings.Repeat("/"+strings.Repeat("n", 28), n) }
	d, f := fresh(t, middling)
	var list []api.Member
	for n := 1; n <= 6; n++ {
		did(t, f.Mkdir(long(n)))
		list = append(list, dir(long(n)[1:]))
	}
	last := long(6) + "/" + strings.Repeat("m", 25) // 200 bytes
	did(t, f.Create(last), f.Write(last, 0, "deep"), f.Link(last, "/z"))
	list = append(list, file(last[1:], 4, piece(0, "deep")), link("z", last[1:]))
	isPacked(t, "a path of 200 bytes", d, f, list)
	for _, tail := range []string{strings.Repeat("t", 1), strings.Repeat("t", 24)} {
		for _, at := range []string{"/a", "/zz"} { // ahead of the others, and behind them
			for _, makes := range []func(string) error{f.Mkdir, f.Create} {
				did(t, f.Mkdir(at), makes(at+"/"+strings.Repeat("x", 25)), f.Rename(at, long(6)+"/"+tail))
				still(t, "Pack", d, func() { packTells(t, f, api.ErrPathLong) })
				did(t, f.Rename(long(6)+"/"+tail, at))
				packed(t, f)
				if err := f.Unlink(at + "/" + strings.Repeat("x", 25)); err != nil {
					did(t, f.Rmdir(at+"/"+strings.Repeat("x", 25)))
				}
				did(t, f.Rmdir(at))
			}
		}
	}
	isPacked(t, "the same again", d, f, list)
	did(t, f.Mkdir("/t"), f.Create("/t/x"), f.Rename("/t", long(6)+"/"+strings.Repeat("t", 23))) // 174 + 1 + 23 + 1 + 1
	packed(t, f)
	did(t, f.Rename(long(6)+"/"+strings.Repeat("t", 23), long(6)+"/"+strings.Repeat("t", 24)))
	packTells(t, f, api.ErrPathLong)
	did(t, f.Unmount())
	packTells(t, f, api.ErrClosed)
}

// P21.5: sizes, holes and pages of zeros.
func TestP21_5Pages(t *testing.T) {
	d, f := fresh(t, middling)
	did(t, f.Create("/f"))
	holds := func(what string, size int, pieces ...api.Piece) {
		t.Helper()
		isPacked(t, what, d, f, []api.Member{file("f", size, pieces...)})
	}
	holds("no bytes", 0)
	did(t, f.Write("/f", 0, "x"))
	holds("one byte", 1, piece(0, "x"))
	did(t, f.Write("/f", 1, strings.Repeat("\x00", 511)))
	holds("a page", 512, piece(0, page("x")))
	did(t, f.Write("/f", 512, "\x00"))
	holds("a zero behind it", 513, piece(0, page("x")))
	did(t, f.Write("/f", 513, "y"))
	holds("two bytes behind it", 514, piece(0, page("x")), piece(512, "\x00y"))
	did(t, f.Write("/f", 0, "\x00"))
	holds("a page of zeros that is no hole", 514, piece(512, "\x00y"))
	did(t, f.Write("/f", 5000, "z"))
	holds("holes", 5001, piece(512, page("\x00y")), piece(4608, strings.Repeat("\x00", 392)+"z"))
	did(t, f.Truncate("/f", 4609))
	holds("a last page of one zero", 4609, piece(512, page("\x00y")))
	did(t, f.Truncate("/f", 262144))
	holds("the greatest size", 262144, piece(512, page("\x00y")))
	did(t, f.Write("/f", 262143, "e"), f.Write("/f", 4095, "ab"), f.Write("/f", 8191, "cd"))
	at511 := func(s string) string { return strings.Repeat("\x00", 511) + s }
	holds("its last byte, and bytes at the seams of what is read at once", 262144, piece(512, page("\x00y")), piece(3584, at511("a")), piece(4096, page("b")), piece(7680, at511("c")), piece(8192, page("d")), piece(261632, at511("e")))
	did(t, f.Truncate("/f", 0), f.Truncate("/f", 262143))
	holds("nothing but holes", 262143)
}

// P21.5: each name of a file; the first one in the list is the file, whichever was given first.
func TestP21_5Names(t *testing.T) {
	d, f := fresh(t, middling)
	did(t, f.Create("/m"), f.Write("/m", 0, "of m"), f.Mkdir("/a"), f.Mkdir("/z"), f.Mkdir("/a.b"), f.Create("/own"))
	isPacked(t, "one name", d, f, []api.Member{dir("a"), dir("a.b"), file("m", 4, piece(0, "of m")), file("own", 0), dir("z")})
	did(t, f.Link("/m", "/z/m"), f.Link("/m", "/a.b/m"))
	isPacked(t, "three names", d, f, []api.Member{dir("a"), dir("a.b"), file("a.b/m", 4, piece(0, "of m")), link("m", "a.b/m"), file("own", 0), dir("z"), link("z/m", "a.b/m")})
	did(t, f.Link("/m", "/a/\xff"), f.Unlink("/m"))
	isPacked(t, "others", d, f, []api.Member{dir("a"), file("a/\xff", 4, piece(0, "of m")), dir("a.b"), link("a.b/m", "a/\xff"), file("own", 0), dir("z"), link("z/m", "a/\xff")})
	did(t, f.Rename("/a", "/zz"), f.Rename("/own", "/a"), f.Link("/a", "/b"))
	isPacked(t, "renamed", d, f, []api.Member{file("a", 0), dir("a.b"), file("a.b/m", 4, piece(0, "of m")), link("b", "a"), dir("z"), link("z/m", "a.b/m"), dir("zz"), link("zz/\xff", "a.b/m")})
	d, f = fresh(t, middling)
	did(t, f.Create("/z"))
	list := []api.Member{file("a100", 0)}
	for i := range 99 {
		did(t, f.Link("/z", "/a"+strconv.Itoa(100+i)))
		list = append(list, link("a"+strconv.Itoa(101+i), "a100"))
	}
	list[99].Path = "z"
	isPacked(t, "100 names", d, f, list)
}

// P21.5: what stands behind a file's end in its last page is nothing of the file.
func TestP21_5Foreign(t *testing.T) {
	d, f := fresh(t, small)
	did(t, f.Create("/f"), f.Unmount())
	v, err := volume.Mount(d, 1, nil)
	if err != nil {
		t.Fatal(err)
	}
	full := []byte(strings.Repeat("x", 512))
	if e := v.Do([]api.Edit{{Ino: 2, Fills: []api.Fill{{Off: 0, Data: full}, {Off: 1, Data: full}}, Size: 700}}); e != api.OK {
		t.Fatal(e)
	}
	f = mounts(t, d)
	want := []api.Member{file("f", 700, piece(0, string(full)), piece(512, string(full[:188])))}
	isPacked(t, "bytes behind the end", d, f, want)
	d, g := fresh(t, small)
	unpacked(t, g, "/", bytesOf(want))
	isPacked(t, "the same there", d, g, want)
	did(t, g.Truncate("/f", 1024))
	isPacked(t, "grown", d, g, []api.Member{file("f", 1024, piece(0, string(full)), piece(512, page(string(full[:188]))))})
}

// roundabout: the operations that make the tree of a good list, in any order and by any detour.
func roundabout(r *rand.Rand, list []api.Member) []op {
	var ops []op
	names := map[string][]string{}
	var files []api.Member
	for _, m := range list {
		switch m.Kind {
		case api.KindDir:
			ops = append(ops, detour(r, op{name: "mkdir", a: "/" + m.Path})...)
		case api.KindFile:
			names[m.Path] = append(names[m.Path], m.Path)
			files = append(files, m)
		default:
			names[m.Link] = append(names[m.Link], m.Path)
		}
	}
	r.Shuffle(len(files), func(i, j int) { files[i], files[j] = files[j], files[i] })
	for _, m := range files {
		all := names[m.Path]
		r.Shuffle(len(all), func(i, j int) { all[i], all[j] = all[j], all[i] })
		ops = append(ops, detour(r, op{name: "create", a: "/" + all[0]})...)
		for i, name := range all[1:] {
			ops = append(ops, op{name: "link", a: "/" + all[i], b: "/" + name})
		}
		ops = append(ops, filling(r, "/"+pick(r, all...), m)...)
	}
	return ops
}

// detour: an operation that makes something, there at once or under another name first.
func detour(r *rand.Rand, o op) []op {
	if r.Intn(3) > 0 {
		return []op{o}
	}
	return []op{{name: o.name, a: "/\xfe other"}, {name: "rename", a: "/\xfe other", b: o.a}}
}

// filling: the writes that give a file its bytes, in any order, some of zeros and some of what is overwritten.
func filling(r *rand.Rand, at string, m api.Member) []op {
	var ops []op
	if r.Intn(3) == 0 {
		ops = append(ops, op{name: "write", a: at, n: r.Intn(2000), b: strings.Repeat("?", 1+r.Intn(600))}, op{name: "truncate", a: at})
	}
	if m.Size > 0 && r.Intn(3) == 0 {
		ops = append(ops, op{name: "write", a: at, n: r.Intn(m.Size), b: "\x00"})
	}
	var writes []op
	for _, p := range m.Pieces {
		cut := r.Intn(len(p.Data))
		writes = append(writes, op{name: "write", a: at, n: p.Off, b: p.Data[:cut]}, op{name: "write", a: at, n: p.Off + cut, b: p.Data[cut:]})
	}
	r.Shuffle(len(writes), func(i, j int) { writes[i], writes[j] = writes[j], writes[i] })
	return append(append(ops, writes...), op{name: "truncate", a: at, n: m.Size})
}

// P21.5: drawn trees, however they came about, are packed as the lists that they are.
func TestP21_5Drawn(t *testing.T) {
	r := chance()
	for round := range 120 {
		d, f := fresh(t, large)
		list := drawnGood(r, 30, 4)
		for i, o := range roundabout(r, list) {
			if err := o.on(f); err != nil {
				t.Fatalf("round %d, operation %d: %v", round, i, err)
			}
		}
		isPacked(t, "drawn", d, f, list)
		did(t, f.Unmount())
		isPacked(t, "mounted again", d, mounts(t, d), list)
	}
}

// P21.5: as many files, directories and names as a device has room for.
func TestP21_5Full(t *testing.T) {
	d, f := fresh(t, large)
	var list []api.Member
	for i := 2; i <= large.Inodes; i++ {
		m := file(strconv.Itoa(1000+i), api.MaxSize, piece(261632, strings.Repeat("\x00", 511)+"x"))
		if i%4 == 0 {
			m = dir(m.Path)
		}
		list = append(list, m)
	}
	if n, _, e := byHand(f, "", list); n != len(list) {
		t.Fatal(n, e)
	}
	isPacked(t, "all inodes", d, f, list)
	d, f = fresh(t, large)
	list = list[:0]
	for i := range 40 {
		in := strconv.Itoa(100 + i)
		did(t, f.Mkdir("/"+in), f.Create("/"+in+"/f"))
		list = append(list, dir(in), file(in+"/f", 0))
		for k := range 99 {
			name := in + "/f" + strconv.Itoa(100+k)
			did(t, f.Link("/"+in+"/f", "/"+name))
			list = append(list, link(name, in+"/f"))
		}
	}
	b := packed(t, f)
	if !bytes.Equal(b, bytesOf(list)) {
		t.Error("P21.5: 4040 names are packed as others")
	}
	_, g := fresh(t, large)
	unpacked(t, g, "/", b)
	if !bytes.Equal(packed(t, g), b) {
		t.Error("P21.7: 4040 names are others there")
	}
}
