package mend_test

import (
	"bytes"
	"fmt"
	"runtime"
	"slices"
	"strings"
	"sync"
	"testing"
	"time"

	"furrow/api"
	"furrow/mend"
)

// R3: what is handed in isn't changed, its spare room neither.
func TestR3HandedIn(t *testing.T) {
	r := chance()
	for range 100 {
		b := drawn(t, r, pick(r, small, middling)).b
		if r.Intn(4) == 0 {
			b = b[:len(b)-r.Intn(600)]
		}
		roomy := append(slices.Clip(b), "some room"...)
		was := slices.Clone(roomy[:cap(roomy)])
		b = roomy[:len(b)]
		mend.Breaches(b)
		mend.Rescue(b)
		_, _ = mend.Mend(empty(t, middling), middling, b)
		if !bytes.Equal(roomy[:cap(roomy)], was) {
			t.Fatal("R3: the image was changed")
		}
	}
}

// fingers: everything of two answers, as one text.
func fingers(b []api.Breach, m []api.Member, l []api.Loss) string {
	return fmt.Sprintf("%v %#v %v", b, m, l)
}

// R3: what is answered is new memory: it isn't the image's, nor another answer's, and no list grows into another.
func TestR3Answers(t *testing.T) {
	for _, made := range []func(t *testing.T) *disk{rich, four, manyBytes} {
		d := made(t)
		breaches := mend.Breaches(d.b)
		members, losses := mend.Rescue(d.b)
		want := fingers(breaches, members, losses)
		one := mend.Breaches(d.b)
		oneM, oneL := mend.Rescue(d.b)
		clear(d.b)
		if fingers(breaches, members, losses) != want {
			t.Fatal("R3: an answer is the image's memory")
		}
		clear(one[:cap(one)])
		clear(oneL[:cap(oneL)])
		for k := range oneM {
			whole := fmt.Sprintf("%#v", oneM[k+1:])
			p := append(oneM[k].Pieces, piece(-1, "more"))
			clear(p[:cap(p)])
			clear(oneM[k].Pieces[:cap(oneM[k].Pieces)])
			if fmt.Sprintf("%#v", oneM[k+1:]) != whole {
				t.Fatalf("R3: the pieces of member %d are another's too", k)
			}
		}
		clear(oneM[:cap(oneM)])
		if fingers(breaches, members, losses) != want {
			t.Fatal("R3: two answers share memory")
		}
	}
}

// R3: nothing of what was handed in or answered is kept: the same call answers the same, whatever came between.
func TestR4NothingIsKept(t *testing.T) {
	r := chance()
	var images [][]byte
	var want []string
	for range 40 {
		b := drawn(t, r, pick(r, small, middling)).b
		m, l := mend.Rescue(b)
		images = append(images, b)
		want = append(want, fingers(mend.Breaches(b), m, l))
	}
	for range 3 {
		for k, b := range images {
			m, l := mend.Rescue(b)
			if fingers(mend.Breaches(b), m, l) != want[k] {
				t.Fatalf("R4: image %d is told otherwise another time", k)
			}
		}
	}
}

// R4: many goroutines at once, some at one image; none is left behind.
func TestR4AtOnce(t *testing.T) {
	before := runtime.NumGoroutine()
	r := chance()
	var wait sync.WaitGroup
	for range 8 {
		b := drawn(t, r, middling).b
		m, l := mend.Rescue(b)
		want := fingers(mend.Breaches(b), m, l)
		for range 4 {
			wait.Go(func() {
				m, l := mend.Rescue(b)
				if fingers(mend.Breaches(b), m, l) != want {
					t.Error("R4: another answer beside others")
				}
				if _, err := mend.Mend(empty(t, large), large, b); err != nil {
					t.Error("R4: Mend", err)
				}
			})
		}
	}
	wait.Wait()
	for range 100 {
		if runtime.NumGoroutine() <= before {
			return
		}
		time.Sleep(10 * time.Millisecond)
	}
	t.Errorf("R4: %d goroutines, there were %d", runtime.NumGoroutine(), before)
}

// R1: any bytes of any length, with a superblock and without.
func TestR1AnyBytes(t *testing.T) {
	r := chance()
	for range 300 {
		b := make([]byte, pick(r, 0, 1, 63, 64, 127, 128, 511, 512, 12287, 12288, 12289, 20000, 524288, 524800))
		r.Read(b)
		if want := []api.Breach{breach(api.ErrSuper, 0)}; !slices.Equal(mend.Breaches(b), want) {
			t.Fatalf("Breaches = %v", mend.Breaches(b))
		}
		d := blank(t, pick(r, small, middling, wide))
		r.Read(d.b[pick(r, 128, 1024, 2048):])
		judged(t, "any bytes behind the superblock", d.b)
	}
}

// P22.7: the time grows with the image's length: the worst images of the largest device are told in little.
func TestP22_7Time(t *testing.T) {
	for what, d := range map[string]*disk{"a long chain": longChain(t), "each with a name for each other": everybody(t), "each to be placed by itself": hangers(t), "every page in every map": allShared(t)} {
		begun := time.Now()
		members, losses := mend.Rescue(d.b)
		mend.Breaches(d.b)
		if took := time.Since(begun); took > 10*time.Second {
			t.Errorf("P22.7: %s: %v for %d members and %d losses", what, took, len(members), len(losses))
		}
	}
}

// longChain: a root and a hundred directories one in the other, and as many names in the lowest one as there is room for.
func longChain(t *testing.T) *disk {
	t.Helper()
	d, _ := deep(t, 99, "n", "n")
	var names []api.Dent
	for _, c := range strings.Split("abcdefghijklmopqrstuvwxyz", "") {
		names = append(names, to(c, 200))
	}
	d.dir(100, 200, names...)
	d.file(200, 25)
	return d
}

// everybody: as many directories as there are inodes, none of them reached, each with names for others; the greatest one goes first.
func everybody(t *testing.T) *disk {
	t.Helper()
	d := formatted(t, large)
	page := d.sh.Data
	for ino := 2; ino <= 256; ino++ {
		var names []api.Dent
		for k := range 21 {
			names = append(names, to(fmt.Sprint("n", k), 2+(ino+k+250)%255))
		}
		d.dir(ino, page, names...)
		page += 3
	}
	return d
}

// hangers: directories that aren't reached, all of whose names are for what isn't there.
func hangers(t *testing.T) *disk {
	t.Helper()
	d := formatted(t, large)
	for k := range 245 {
		var names []api.Dent
		for j := range 28 {
			names = append(names, to(fmt.Sprint("n", j), 256))
		}
		d.dir(2+k, d.sh.Data+4*k, names...)
	}
	return d
}

// allShared: each file's map has as many pages as its log can say.
func allShared(t *testing.T) *disk {
	t.Helper()
	d := formatted(t, large)
	page := d.sh.Data
	for ino := 2; ino <= 240; ino++ {
		var l []api.Entry
		for k := range 28 {
			l = append(l, write(16*k, 16, 500+16*(k%30), 262144))
		}
		d.log(ino, api.KindFile, 1, from(page, 4), l...)
		page += 4
	}
	return d
}

// P22.2: where Replay answers a state and where it doesn't, for each byte of a small image that is turned.
func TestP22_2EachByte(t *testing.T) {
	d := rich(t)
	d.spoil(5)
	d.spoil(6)
	d.spoil(7)
	good := four(t)
	good.written(2, 10, write(0, 2, 12, 1000))
	good.dir(1, 9, to("a", 2), to("b", 3))
	good.dir(3, 11, to("c", 4))
	good.file(4, 1)
	if !judged(t, "a sound one", good.b) || judged(t, "one that isn't", d.b) {
		t.Fatal("P22.2: what is sound isn't, or what isn't is")
	}
	for _, b := range [][]byte{good.b, d.b} {
		for at := range b {
			if at >= 13*512 && at%37 > 0 {
				continue
			}
			was := b[at]
			b[at] ^= 1 << (at % 8)
			judged(t, fmt.Sprint("byte ", at), b)
			b[at] = was
		}
	}
}
