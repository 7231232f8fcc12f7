package tidy_test

import (
	"math/rand"
	"reflect"
	"strconv"
	"testing"

	"furrow/api"
	"furrow/files"
	"furrow/pmem"
	"furrow/tree"
	"furrow/volume"
)

// lived: a device whose files grew beside one another, were cut and taken away, by so many drawn calls; some are below directories, some have two names, and where the device is foreign bytes stand behind the ends of some.
func lived(t *testing.T, r *rand.Rand, s api.Super, calls int, foreign bool) (*pmem.Device, *volume.Volume) {
	t.Helper()
	d, v := fresh(t, s, 3)
	tree.Make(v, 1, "dir", api.KindDir)
	for range calls {
		lives(r, v, foreign)
	}
	return d, v
}

// lives: one drawn call, be it refused or not.
func lives(r *rand.Rand, v *volume.Volume, foreign bool) {
	st := v.State()
	n := oneOf(r, st.Nodes)
	dir := oneOf(r, st.Nodes).Ino
	name := "n" + strconv.Itoa(r.Intn(12))
	switch r.Intn(17) {
	case 16: // a page of zeros, which is no hole
		files.Write(v, n.Ino, 512*r.Intn(10), page(0))
	case 0:
		tree.Make(v, dir, name, 1+r.Intn(8)/7)
	case 1:
		tree.Unlink(v, dir, name)
	case 2:
		tree.Link(v, dir, name, n.Ino)
	case 3:
		files.Truncate(v, n.Ino, r.Intn(9000))
	case 4:
		files.Write(v, n.Ino, 512*r.Intn(30), noise(r, 1+r.Intn(3000)))
	case 5:
		if foreign {
			off := r.Intn(20)
			v.Do([]api.Edit{{Ino: n.Ino, Fills: []api.Fill{{Off: off, Data: []byte(noise(r, 512))}}, Size: 512*off + 1 + r.Intn(511)}})
		}
	default: // a page more behind its end, or one anew
		off := (n.Size + 511) / 512
		if r.Intn(4) == 0 {
			off = r.Intn(off + 2)
		}
		files.Write(v, n.Ino, 512*off, noise(r, 1+r.Intn(512)))
	}
}

// drawnFile: a file's number; the root's, if there is none.
func drawnFile(r *rand.Rand, v *volume.Volume) int {
	list := []int{}
	for _, n := range v.State().Nodes {
		if n.Kind == api.KindFile {
			list = append(list, n.Ino)
		}
	}
	if len(list) == 0 {
		return 1
	}
	return oneOf(r, list)
}

// crowds: a file takes free pages till there are about as many as another one has.
func crowds(r *rand.Rand, v *volume.Volume) {
	ino := drawnFile(r, v)
	n, _ := v.Node(drawnFile(r, v))
	for off := 0; off < 512 && v.FreePages() > len(mapped(n)); off++ {
		files.Write(v, ino, 512*off, "crowds")
	}
}

// shapes: some of which have areas of unlike size.
var shapes = []struct {
	s     api.Super
	calls int
	turns int
}{
	{small, 40, 120},
	{tight, 30, 80},
	{middling, 90, 100},
	{api.Super{Pages: 47, Inodes: 16, Cores: 2}, 70, 80},
	{api.Super{Pages: 200, Inodes: 40, Cores: 7}, 250, 20},
	{large, 700, 2},
}

// counts: what the draws have met, so that none of it is missed: files written anew, files that stayed, those of them for whose log no page was left, and Alls of three rounds or more.
type counts struct {
	anew, stayed, full, rounds int
}

// TestP24_2Drawn: File of each file and of wild numbers, held against the twin, on drawn devices; 24.4 and 24.5 of each of them.
func TestP24_2Drawn(t *testing.T) {
	r := chance()
	var met counts
	for _, c := range shapes {
		for turn := range c.turns {
			d, v := lived(t, r, c.s, r.Intn(c.calls), turn%3 == 0)
			if turn%2 == 0 {
				crowds(r, v)
			}
			w := twinOf(t, d)
			for range 6 {
				ino := drawnFile(r, v)
				if r.Intn(8) == 0 {
					ino = oneOf(r, append([]int{1, c.s.Inodes, c.s.Inodes + 1}, wild...))
				}
				if fileOnce(t, d, v, w, ino) {
					met.anew++
				} else {
					met.stayed++
				}
			}
			met.full += *w.full
			meant(t, "File", d, v)
		}
	}
	if met.anew < 100 || met.stayed < 100 || met.full < 3 {
		t.Errorf("met were only %+v", met)
	}
}

// fileOnce: one File; what else it must leave as it was.
func fileOnce(t *testing.T, d *pmem.Device, v *volume.Volume, w twin, ino int) bool {
	t.Helper()
	was, st, sum, loose, steps := seenOf(t, v), v.State(), spreadBeside(t, v, w), looseOf(v), d.Steps()
	n, _ := v.Node(ino)
	at, _ := w.offer(n)
	did, _ := fileBeside(t, d, v, w, ino)
	same(t, "24.5", v, was)
	if looseOf(v) != loose {
		t.Fatalf("24.5: free pages and logs' pages are %d; they were %d", looseOf(v), loose)
	}
	if !did {
		if d.Steps() != steps || !reflect.DeepEqual(v.State(), st) {
			t.Fatalf("24.2: File(%d) answers false, and has done something", ino)
		}
		return false
	}
	if now := node(t, v, ino); stands(now) != at || len(now.Map) >= len(n.Map) {
		t.Fatalf("24.4: File(%d) made the map %v of %v", ino, now.Map, n.Map)
	} else if spreadBeside(t, v, w) != sum-len(n.Map)+len(now.Map) {
		t.Fatalf("24.4: the spread was %d, is %d", sum, spreadBeside(t, v, w))
	}
	for i, o := range v.State().Nodes {
		if o.Ino != ino && !reflect.DeepEqual(o, st.Nodes[i]) {
			t.Fatalf("24.4: File(%d) changed another inode: %+v, then %+v", ino, st.Nodes[i], o)
		}
	}
	return true
}

// TestP24_3Drawn: All, held against the twin, on drawn devices; 24.4 and 24.5 of it.
func TestP24_3Drawn(t *testing.T) {
	r := chance()
	var met counts
	for _, c := range shapes {
		for turn := range c.turns {
			d, v := lived(t, r, c.s, r.Intn(c.calls), turn%3 == 0)
			w := twinOf(t, d)
			was, sum, loose := seenOf(t, v), spreadBeside(t, v, w), looseOf(v)
			n, e, rounds := allBeside(t, d, v, w)
			if e != api.OK || n > sum || n > sum-spreadBeside(t, v, w) {
				t.Fatalf("24.4: All = %d, %v; the spread was %d, is %d", n, e, sum, spreadBeside(t, v, w))
			}
			if (n > 0) != (rounds > 1) {
				t.Fatalf("24.3: All = %d by %d rounds", n, rounds)
			}
			if rounds > 2 {
				met.rounds++
			}
			same(t, "24.5", v, was)
			if looseOf(v) != loose {
				t.Fatalf("24.5: free pages and logs' pages are %d; they were %d", looseOf(v), loose)
			}
			still(t, "24.4: All again", d, v, func() { all(t, v, 0, api.OK) })
			meant(t, "All", d, v)
			same(t, "24.5, mounted anew", mounts(t, d), was)
		}
	}
	if met.rounds < 10 {
		t.Errorf("only %d needed a third round", met.rounds)
	}
}
