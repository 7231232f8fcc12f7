package mend_test

import (
	"bytes"
	"errors"
	"fmt"
	"math/rand"
	"strings"
	"testing"

	"furrow/api"
	"furrow/fs"
	"furrow/mend"
	"furrow/pmem"
)

// sound: whether nothing is wrong with an image, and a rescue loses nothing of it: P22.2, and P22.7's end.
func sound(t *testing.T, what string, b []byte) {
	t.Helper()
	if l := mend.Breaches(b); len(l) > 0 {
		t.Fatalf("P22.2: %s: Breaches = %v", what, l)
	}
	members, losses := mend.Rescue(b)
	if len(losses) > 0 {
		t.Fatalf("P22.7: %s: Rescue tells the losses %v", what, losses)
	}
	if want := packed(t, b); !same(members, want) {
		t.Fatalf("P22.7: %s: Rescue answers%s\nPack makes%s", what, shown(members), shown(want))
	}
}

// churn does an operation that is drawn; whatever it answers.
func churn(r *rand.Rand, f *fs.FS) error {
	path := func() string {
		p := "/" + pick(r, "a", "b", "lost", "a.", "a-")
		for r.Intn(3) == 0 {
			p += "/" + pick(r, "a", "b", "lost", strings.Repeat("n", 28))
		}
		return p
	}
	switch r.Intn(9) {
	case 0, 1:
		return f.Mkdir(path())
	case 2, 3:
		return f.Create(path())
	case 4, 5:
		data := make([]byte, pick(r, 1, 511, 512, 513, 1500))
		if r.Intn(3) > 0 {
			r.Read(data[:r.Intn(len(data))+1])
		}
		return f.Write(path(), r.Intn(2000), string(data))
	case 6:
		return f.Truncate(path(), pick(r, 0, 1, 512, 700, 5000))
	case 7:
		return pick(r, f.Link, f.Rename)(path(), path())
	}
	return pick(r, f.Unlink, f.Rmdir)(path())
}

// formattedDevice: a device with a new file system, mounted.
func formattedDevice(t *testing.T, s api.Super) (*pmem.Device, *fs.FS) {
	t.Helper()
	d := empty(t, s)
	if err := fs.Mkfs(d, s); err != nil {
		t.Fatal("Mkfs", err)
	}
	f, err := fs.Mount(d, 1, nil)
	if err != nil {
		t.Fatal("Mount", err)
	}
	return d, f
}

// P22.7, T8: of an image that means a state nothing is lost, amid the work and behind an unmount.
func TestP22_7Sound(t *testing.T) {
	r := chance()
	for range 60 {
		d, f := formattedDevice(t, pick(r, small, middling))
		sound(t, "new", d.View())
		for k := range 60 {
			_ = churn(r, f)
			if k%7 == 0 {
				sound(t, "amid", d.View())
			}
		}
		if err := f.Unmount(); err != nil {
			t.Fatal(err)
		}
		sound(t, "behind", d.View())
		judged(t, "behind", d.View())
	}
}

// P22.7, T2: what a loss of power leaves means a state, so nothing is lost of it either; a journal that is pending among them.
func TestP22_7LossOfPower(t *testing.T) {
	r := chance()
	pending := 0
	for range 500 {
		d, f := formattedDevice(t, small)
		for range r.Intn(20) {
			_ = churn(r, f)
		}
		d.Arm(r.Intn(80))
		for range 100 {
			if errors.Is(churn(r, f), api.ErrDead) {
				break
			}
		}
		for range 3 {
			choices := make([]int, len(d.Doubts()))
			for k := range choices {
				choices[k] = r.Int()
			}
			b := d.Crash(choices)
			if !bytes.Equal(b[512:520], make([]byte, 8)) {
				pending++
			}
			sound(t, "what a loss of power left", b)
		}
	}
	if pending < 20 {
		t.Errorf("the journal was pending %d times alone", pending)
	}
}

// P22.7: bytes that stand behind a file's end are none of it, though the image is sound.
func TestP22_7BehindTheEnd(t *testing.T) {
	r := chance()
	for range 100 {
		d := formatted(t, small)
		d.dir(1, 9, to("f", 2), to("g", 3))
		d.written(2, 10, write(0, 2, 12, 1+r.Intn(1024)), sized(r.Intn(1500)), sized(r.Intn(1500)))
		d.written(3, 11, write(1, 1, 14, r.Intn(1500)))
		r.Read(d.b[512*12 : 512*15])
		if r.Intn(2) == 0 {
			clear(d.b[512*12 : 512*12+r.Intn(1200)])
		}
		sound(t, "anything behind the end", d.b)
		judged(t, "anything behind the end", d.b)
	}
}

// P22.7: a path of 200 bytes: the image means a state, and the name is let go.
func TestP22_7PathsTooLong(t *testing.T) {
	d, f := formattedDevice(t, middling)
	long := strings.Repeat("n", 28)
	path := ""
	for range 6 {
		path += "/" + long
		if err := f.Mkdir(path); err != nil {
			t.Fatal(err)
		}
	}
	if err := errors.Join(f.Mkdir("/top"), f.Create(path+"/f"), f.Rename("/"+long, "/top/"+long)); err != nil {
		t.Fatal(err)
	}
	sound(t, "four bytes more", d.View())
	deep := "/top/" + path[1:]
	if err := f.Create(deep + "/" + long[:21]); err != nil { // 4 + 6 * 29 + 22 bytes: 199 without the slash in front
		t.Fatal(err)
	}
	sound(t, "199 bytes", d.View())
	if err := errors.Join(f.Mkdir("/t"), f.Rename("/top", "/t/top")); err != nil {
		t.Fatal(err)
	}
	if l := mend.Breaches(d.View()); len(l) > 0 {
		t.Errorf("P22.2: Breaches = %v", l)
	}
	six, _ := f.Stat("/t/top" + path)
	file, _ := f.Stat("/t/top" + path + "/f")
	members, losses := mend.Rescue(d.View())
	if file.Ino == 0 || len(losses) != 2 || losses[0] != unnamed(api.ErrPathLong, six.Ino, long[:21]) || losses[1].Reason != api.ErrLost {
		t.Errorf("P22.4: losses %v; the directory is %d", losses, six.Ino)
	}
	if want := fmt.Sprint("lost/", losses[1].Place); members[0].Path != "lost" || members[1].Path != want {
		t.Errorf("P22.5: members%s\nwant %s", shown(members), want)
	}
	judged(t, "a path of 201 bytes", d.View())
}
