package archive_test

import (
	"bytes"
	"math"
	"reflect"
	"runtime"
	"slices"
	"strings"
	"sync"
	"testing"
	"time"

	"furrow/api"
	"furrow/archive"
)

// roomy: a list with room behind it and behind its pieces.
func roomy(list []api.Member) []api.Member {
	l := append(make([]api.Member, 0, len(list)+4), list...)
	for k := range l {
		l[k].Pieces = append(make([]api.Piece, 0, len(l[k].Pieces)+4), l[k].Pieces...)
	}
	return l
}

// whole: a list with what stands in its room, and in that of its pieces.
func whole(list []api.Member) []api.Member {
	l := slices.Clone(list[:cap(list)])
	for k := range l {
		l[k].Pieces = slices.Clone(l[k].Pieces[:cap(l[k].Pieces)])
	}
	return l
}

// P21.9, R3: what is handed in isn't changed, its spare room neither.
func TestP21_9HandedIn(t *testing.T) {
	r := chance()
	for range 200 {
		list := roomy(drawnGood(r, 9, 3))
		if r.Intn(3) == 0 {
			list = roomy(spoilt(r, list))
		}
		was := whole(list)
		archive.Make(list)
		if !reflect.DeepEqual(whole(list), was) {
			t.Fatal("P21.9: Make changed its list")
		}
		b := bytesOf(list)
		b = append(b, 1, 2, 3, 4, 5, 6, 7, 8, 9)
		bytesWere := slices.Clone(b[:cap(b)])
		n := len(b) - 9
		archive.Open(b[:n])
		_, f := fresh(t, middling)
		_, _ = archive.Unpack(f, "/", b[:n])
		if !bytes.Equal(b[:cap(b)], bytesWere) {
			t.Fatal("P21.9: Open or Unpack changed its bytes")
		}
	}
}

// P21.9, R3: what is handed in isn't kept, and what is answered shares no memory with it or with another answer.
func TestP21_9Answers(t *testing.T) {
	list := rich()
	b := made(t, list)
	other := made(t, list)
	for k := range list {
		clear(list[k].Pieces)
	}
	clear(list)
	if !bytes.Equal(b, bytesOf(rich())) {
		t.Fatal("P21.9: Make keeps its list")
	}
	clear(b[:cap(b)])
	if !bytes.Equal(other, bytesOf(rich())) {
		t.Fatal("P21.9: two answers of Make share memory")
	}
	one, _ := archive.Open(other)
	two, _ := archive.Open(other)
	clear(other)
	if !same(one, rich()) || !same(two, rich()) {
		t.Fatal("P21.9: Open keeps its bytes")
	}
	for k := range one { // no list grows into another one
		_ = append(one[k].Pieces, piece(-1, "more"))
		clear(one[k].Pieces[:cap(one[k].Pieces)])
		for other := range one {
			if other > k && !same(one[other:other+1], rich()[other:other+1]) {
				t.Fatalf("P21.9: the pieces of members %d and %d share memory", k, other)
			}
		}
	}
	clear(one[:cap(one)])
	if !same(two, rich()) {
		t.Fatal("P21.9: two answers of Open share memory")
	}
}

// P21.9, R3: what Pack answers is new memory, and what Unpack was handed isn't kept.
func TestP21_9FileSystems(t *testing.T) {
	d, f := fresh(t, large)
	b := bytesOf(rich())
	unpacked(t, f, "/", b)
	clear(b)
	isPacked(t, "unpacked", d, f, rich())
	one, two := packed(t, f), packed(t, f)
	clear(one[:cap(one)])
	if !bytes.Equal(two, bytesOf(rich())) {
		t.Fatal("P21.9: two answers of Pack share memory")
	}
	isPacked(t, "the same", d, f, rich())
	clear(d.View())
	isPacked(t, "the same", d, f, rich())
}

// R1: the greatest and least numbers, empty and nil lists: judged as ever.
func TestR1Wild(t *testing.T) {
	for _, n := range []int{math.MaxInt, math.MinInt, math.MaxInt - 511, math.MinInt + 511, math.MinInt + 512, -512, 1 << 62} {
		for _, m := range []int{math.MaxInt, math.MinInt, 0, 512, -512} {
			judged(t, []api.Member{{Kind: 1, Path: "a", Size: n, Pieces: []api.Piece{piece(m, ""), piece(n, "x")}}})
			judged(t, []api.Member{{Kind: 1, Path: "a", Size: 1024, Pieces: []api.Piece{piece(n, page("x")), piece(m, page("x"))}}})
			judged(t, []api.Member{{Kind: n, Path: "a", Size: m}})
		}
	}
	judged(t, []api.Member{})
	judged(t, []api.Member{{}})
	judged(t, make([]api.Member, 10))
	judged(t, []api.Member{{Kind: 1, Path: "a", Size: 1, Pieces: []api.Piece{{}}}})
	if list, e := archive.Open([]byte{}); e != api.ErrArchive || list != nil {
		t.Errorf("Open of no bytes = %v, %v", list, e)
	}
}

// P21.9: numbers in the bytes that claim more than there is, and long texts, cost little.
func TestP21_9Claims(t *testing.T) {
	began := time.Now()
	const most = 1<<32 - 1
	for _, b := range [][]byte{
		lineOf(most), append(lineOf(most), bytesOf(rich())[64:]...),
		append(lineOf(1), half(half(half(half(half(nil, 1), most), 0), 0), 0)...), append(lineOf(1), half(half(half(half(half(nil, 1), 0), most), 0), 0)...),
		append(lineOf(1), half(half(half(half(half(nil, 1), 0), 0), 0), most)...), append(append(lineOf(1), half(half(half(half(half(nil, 1), 0), 0), 0), most)...), make([]byte, 1<<20)...),
		append(lineOf(8192), make([]byte, 1<<20)...), make([]byte, 1<<20), append(lineOf(1), half(half(half(half(half(half(half(nil, 1), 0), 0), 0), 1), 0), most)...),
	} {
		refused(t, "claims", b)
	}
	long := strings.Repeat("a/", 1<<20)
	for _, list := range [][]api.Member{{dir(long)}, {file("a", 0), link("b", long)}, {file("a", 600, piece(0, long))}, make([]api.Member, 1<<18), {{Kind: 1, Path: "a", Size: 600, Pieces: make([]api.Piece, 1<<18)}}} {
		if b, e := archive.Make(list); e != api.ErrMember || b != nil {
			t.Errorf("P21.9: Make = %d bytes, %v", len(b), e)
		}
		refused(t, "what is long", bytesOf(list))
	}
	if took := time.Since(began); took > 10*time.Second {
		t.Errorf("P21.9: it took %v", took)
	}
}

// P21.9: any bytes below any path: Unpack answers, and makes what Open reads or nothing.
func TestP21_9AnyBytes(t *testing.T) {
	r := chance()
	for range 300 {
		b := altered(r, drawnGood(r, 5, 2))
		list, e := archive.Open(b)
		d, f := fresh(t, middling)
		if e == api.OK {
			unpacked(t, f, "/", b)
			isPacked(t, "altered bytes", d, f, list)
			continue
		}
		still(t, "Unpack", d, func() { unpackTells(t, f, "/", b, 0, "/", api.ErrArchive) })
	}
}

// R4: calls of several goroutines over file systems and lists of their own answer what they answer alone; no goroutine is left.
func TestR4Goroutines(t *testing.T) {
	before := runtime.NumGoroutine()
	var all sync.WaitGroup
	for range 8 {
		_, f := fresh(t, large)
		all.Go(func() {
			for range 20 {
				b, e := archive.Make(rich())
				list, no := archive.Open(b)
				if e != api.OK || no != api.OK || !bytes.Equal(b, bytesOf(list)) || !same(list, rich()) {
					t.Errorf("Make and Open: %v, %v", e, no)
				}
				archive.Open(b[:len(b)-1])
			}
			n, err := archive.Unpack(f, "/", bytesOf(rich()))
			b, no := archive.Pack(f)
			if n != len(rich()) || err != nil || no != nil || !bytes.Equal(b, bytesOf(rich())) {
				t.Errorf("Unpack = %d, %v; Pack: %v", n, err, no)
			}
		})
	}
	all.Wait()
	for range 100 {
		if runtime.NumGoroutine() <= before {
			return
		}
		time.Sleep(time.Millisecond)
	}
	t.Errorf("%d goroutines are left of %d", runtime.NumGoroutine(), before)
}

// R4: while another goroutine changes the tree, Pack answers an archive or an error of its own, and Unpack goes on or is refused as any operation is.
func TestR4Beside(t *testing.T) {
	_, f := fresh(t, large)
	did(t, f.Mkdir("/in"), f.Create("/x"))
	stop := make(chan struct{})
	var other sync.WaitGroup
	other.Go(func() {
		for {
			select {
			case <-stop:
				return
			default:
				_, _, _, _ = f.Create("/a"), f.Write("/a", 600, "bytes"), f.Truncate("/a", 3), f.Unlink("/a")
			}
		}
	})
	for range 60 {
		b, err := archive.Pack(f)
		if _, e := archive.Open(b); (err == nil) != (e == api.OK) {
			t.Errorf("Pack = %v; Open of it: %v", err, e)
		}
		if p, is := err.(*api.PathError); err != nil && (!is || p.Op != "pack" || p.Path != "") {
			t.Errorf("Pack: %v", err)
		}
	}
	unpacked(t, f, "/in", bytesOf(example()))
	close(stop)
	other.Wait()
}
