package mend_test

import (
	"bytes"
	"errors"
	"fmt"
	"math/rand"
	"reflect"
	"slices"
	"strconv"
	"strings"
	"testing"

	"furrow/api"
	"furrow/mend"
	"furrow/pmem"
	"furrow/replay"
)

// twin: whether Mend does to a device what the chapter's words do to one like it, and answers so; the error.
func twin(t *testing.T, what string, bytesOf []byte, steps int, s api.Super, image []byte) error {
	t.Helper()
	one, two := load(t, bytesOf), load(t, bytesOf)
	if steps >= 0 {
		one.Arm(steps)
		two.Arm(steps)
	}
	members, losses := mend.Rescue(image)
	was := slices.Clone(image)
	told, err := mend.Mend(one, s, image)
	want := byHand(t, two, s, members)
	if !alike(one, two) || !bytes.Equal(image, was) {
		t.Fatalf("P22.8: %s: Mend did %d steps, by hand it is %d", what, one.Steps(), two.Steps())
	}
	if !reflect.DeepEqual(err, want) {
		t.Fatalf("P22.8: %s: Mend's error is %v; by hand it is %v", what, err, want)
	}
	if err == nil && !slices.Equal(told, losses) || err != nil && len(told) > 0 {
		t.Fatalf("P22.8: %s: Mend = %v, %v; Rescue tells %v", what, told, err, losses)
	}
	return err
}

// mended: whether Mend takes an image; what it made is sound, and is rescued as it was (P22.9).
func mended(t *testing.T, what string, d *pmem.Device, s api.Super, image []byte) {
	t.Helper()
	if _, err := mend.Mend(d, s, image); err != nil {
		members, losses := mend.Rescue(image)
		t.Fatalf("P22.9: %s: Mend: %v%s\n%v", what, err, shown(members), losses)
	}
	again(t, what, d.View(), image)
}

// again: P22.9 of the bytes that a Mend left that answered nil.
func again(t *testing.T, what string, left, image []byte) {
	t.Helper()
	if st, err := replay.Replay(left); err != nil || len(st.Nodes) == 0 {
		t.Fatalf("P22.9: %s: Replay: %v", what, err)
	}
	if l := mend.Breaches(left); len(l) > 0 {
		t.Fatalf("P22.9: %s: Breaches of what was mended: %v", what, l)
	}
	members, _ := mend.Rescue(image)
	now, losses := mend.Rescue(left)
	if len(losses) > 0 || !same(now, members) {
		t.Fatalf("P22.9: %s: rescued again:%s\n%v\nit was%s", what, shown(now), losses, shown(members))
	}
}

// rich: an image of which much is wrong, and with files, links and bytes.
func rich(t *testing.T) *disk {
	t.Helper()
	d := formatted(t, small)
	d.dir(1, 9, to("d", 2), to("f", 3), to("g", 3), to("q", 8))
	d.dir(2, 10, to("x", 4))
	d.written(3, 11, write(0, 2, 15, 700), write(4, 1, 17, 4000))
	copy(d.b[512*15:], strings.Repeat("bytes", 120))
	copy(d.b[512*17:], "more")
	d.file(4, 7)
	d.dir(5, 12, to("y", 6))
	d.dir(6, 13, to("z", 5))
	d.written(7, 14, write(0, 1, 9, 4))
	return d
}

// P22.8: what Mend does, step by step; whatever the device held.
func TestP22_8Steps(t *testing.T) {
	s := api.Super{Pages: 40, Inodes: 16, Cores: 2}
	for _, b := range [][]byte{rich(t).b, four(t).b, nil, make([]byte, 12288), blank(t, small).b, formatted(t, large).b} {
		if err := twin(t, "zeros", make([]byte, 40*512), -1, s, b); err != nil {
			t.Errorf("P22.8: %v", err)
		}
		old := formatted(t, s)
		old.dir(1, 9, to("old", 2))
		old.file(2, 1)
		if err := twin(t, "another tree", old.b, -1, s, b); err != nil {
			t.Errorf("P22.8: %v", err)
		}
		any := make([]byte, 40*512)
		chance().Read(any)
		if err := twin(t, "any bytes", any, -1, s, b); err != nil {
			t.Errorf("P22.8: %v", err)
		}
	}
}

// P22.8: a device that goes dead anywhere: Mend ends there with that error, and no losses.
func TestP22_8Dead(t *testing.T) {
	s := api.Super{Pages: 40, Inodes: 16, Cores: 2}
	d := empty(t, s)
	if _, err := mend.Mend(d, s, rich(t).b); err != nil {
		t.Fatal(err)
	}
	whole := d.Steps()
	b := rich(t).b
	for steps := 0; steps < whole; steps++ {
		if err := twin(t, fmt.Sprint("dead behind ", steps), make([]byte, 40*512), steps, s, b); !errors.Is(err, api.ErrDead) {
			t.Fatalf("P22.8: dead behind %d steps: %v", steps, err)
		}
	}
	if err := twin(t, "as many as it needs", make([]byte, 40*512), whole, s, b); err != nil {
		t.Errorf("P22.8: %v", err)
	}
}

// P22.8: a super that isn't good, or isn't that of the device: nothing is done.
func TestP22_8Supers(t *testing.T) {
	b := rich(t).b
	for _, s := range []api.Super{{}, {Pages: 40, Inodes: 16, Cores: 9}, {Pages: 40, Inodes: 15, Cores: 1}, {Pages: 41, Inodes: 16, Cores: 1}, {Pages: 39, Inodes: 16, Cores: 1}, {Pages: -40, Inodes: -16, Cores: -1}, {Pages: 1 << 62, Inodes: 1 << 62, Cores: 1 << 62}} {
		d := empty(t, api.Super{Pages: 40})
		losses, err := mend.Mend(d, s, b)
		if err != error(api.ErrShape) || len(losses) > 0 || d.Steps() > 0 {
			t.Errorf("P22.8: Mend of %v = %v, %v; %d steps", s, losses, err, d.Steps())
		}
	}
}

// P22.8: too few pages, too few inodes: what has been made stays, and the error is Unpack's.
func TestP22_8NoRoom(t *testing.T) {
	d := formatted(t, middling)
	var names []api.Dent
	for k := range 20 {
		names = append(names, to("f"+strconv.Itoa(10+k), 3+k))
		d.file(3+k, 1)
	}
	d.dir(1, 20, names...)
	s := api.Super{Pages: 24, Inodes: 8, Cores: 1}
	err := twin(t, "eight inodes", make([]byte, 24*512), -1, s, d.b)
	if p, is := err.(*api.PathError); !is || *p != (api.PathError{Op: "unpack", Path: "/f17", Err: api.ErrNoInodes}) {
		t.Errorf("P22.8: too few inodes: %v", err)
	}
	full := formatted(t, middling)
	full.dir(1, 20, to("f", 2))
	full.log(2, api.KindFile, 1, []int{21}, write(0, 16, 30, 16*512), write(16, 10, 46, 26*512))
	for k := range 26 {
		full.b[512*(30+k)] = byte(k + 1)
	}
	err = twin(t, "19 data pages", make([]byte, 24*512), -1, s, full.b)
	if p, is := err.(*api.PathError); !is || *p != (api.PathError{Op: "unpack", Path: "/f", Err: api.ErrNoSpace}) {
		t.Errorf("P22.8: too few pages: %v", err)
	}
}

// P22.8, P22.9: drawn images on devices with room and without it.
func TestP22_8Drawn(t *testing.T) {
	r := chance()
	made := 0
	for range 150 {
		d := drawn(t, r, pick(r, small, middling))
		s := pick(r, small, middling, api.Super{Pages: 100, Inodes: 40, Cores: 8})
		steps := -1
		if r.Intn(3) == 0 {
			steps = r.Intn(2000)
		}
		if twin(t, "drawn", make([]byte, 512*s.Pages), steps, s, d.b) == nil {
			made++
			again(t, "drawn", mendedBytes(t, s, d.b), d.b)
		}
	}
	if made < 30 {
		t.Errorf("only %d were made", made)
	}
}

func mendedBytes(t *testing.T, s api.Super, image []byte) []byte {
	t.Helper()
	d := empty(t, s)
	if _, err := mend.Mend(d, s, image); err != nil {
		t.Fatal(err)
	}
	return d.View()
}

// P22.9: a device of 1024 pages takes all that can be saved of a smaller one, whatever it held.
func TestP22_9Drawn(t *testing.T) {
	r := chance()
	for k := range 50 {
		b := drawn(t, r, pick(r, small, middling, wide, api.Super{Pages: 128, Inodes: 40, Cores: 1})).b
		if k%10 == 0 {
			b = b[:len(b)-1]
		}
		to := make([]byte, 1024*512)
		if k%2 == 0 {
			r.Read(to)
		}
		mended(t, "drawn", load(t, to), api.Super{Pages: 1024, Inodes: 256, Cores: 1 + k%8}, b)
	}
}

// P22.9: what is worst for the new device: as many nodes as can be, as many names, as many pages.
func TestP22_9Greatest(t *testing.T) {
	for _, c := range []struct {
		what string
		d    *disk
	}{
		{"248 directories without a name", crowd(t, api.KindDir)},
		{"247 files without a name", crowd(t, api.KindFile)},
		{"names in each page", manyNames(t)},
		{"a directory in the other, each with names", chain(t)},
		{"bytes in each page", manyBytes(t)},
	} {
		judged(t, c.what, c.d.b)
		for _, cores := range []int{1, 8} {
			mended(t, c.what, empty(t, large), api.Super{Pages: 1024, Inodes: 256, Cores: cores}, c.d.b)
		}
	}
}

// crowd: all inodes but the root are of a kind, and have no name.
func crowd(t *testing.T, kind int) *disk {
	t.Helper()
	d := formatted(t, wide)
	for ino := 2; ino <= 248; ino++ {
		d.slot(ino, kind, 1, 0, 0)
	}
	return d
}

// manyNames: each page of the data area is a full log page of a directory, and all names stand for files.
func manyNames(t *testing.T) *disk {
	t.Helper()
	d := formatted(t, wide)
	page, next := d.sh.Data, 200
	for ino := 1; page < d.sh.Pages; ino++ {
		var names []api.Dent
		for k := range 7 {
			if k == 0 && ino < d.sh.Pages-d.sh.Data {
				names = append(names, to("0", ino+1))
				continue
			}
			names = append(names, to(strings.Repeat(strconv.Itoa(k), 1+k%2), next))
			if next++; next > 248 {
				next = 200
			}
		}
		d.dir(ino, page, names...)
		page++
	}
	for ino := 200; ino <= 248; ino++ {
		d.file(ino, 100)
	}
	return d
}

// chain: a directory in the other, so that the lower ones are too deep down, each with the names of six files.
func chain(t *testing.T) *disk {
	t.Helper()
	d := blank(t, wide)
	many := d.sh.Pages - d.sh.Data
	for k := range many {
		names := []api.Dent{to("n", k+2)}
		for j := range 6 {
			names = append(names, to(strings.Repeat(string(rune('a'+j)), 28), 100+(6*k+j)%149))
		}
		d.dir(k+1, d.sh.Data+k, names...)
	}
	for ino := many + 1; ino <= 248; ino++ {
		d.file(ino, 1)
	}
	return d
}

// manyBytes: files of one page each, and one whose pages are as far from each other as can be.
func manyBytes(t *testing.T) *disk {
	t.Helper()
	d := formatted(t, wide)
	page := d.sh.Data
	r := rand.New(rand.NewSource(1))
	r.Read(d.b[512*page:])
	for ino := 2; page+2 <= d.sh.Pages-20; ino++ {
		d.written(ino, page, write(ino%512, 1, page+1, 262144))
		page += 2
	}
	var l []api.Entry
	for k := range 15 {
		l = append(l, write(31*k, 1, d.sh.Pages-20+k, 262144))
	}
	d.log(248, api.KindFile, 1, from(d.sh.Pages-5, 3), l...)
	return d
}
