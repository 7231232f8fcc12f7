package replay_test

import (
	"math"
	"testing"

	"furrow/api"
)

// TestP11_3Inode: lists that don't rise, numbers that the shape hasn't, kinds that are none; whatever else is wrong.
func TestP11_3Inode(t *testing.T) {
	bad := [][]api.Node{
		{dir(0)}, {dir(9)}, {dir(1), dir(9)}, {dir(0), dir(1)}, {dir(1), dir(1)}, {dir(1), file(3, 1), file(2, 1)}, {dir(1), file(3, 1), file(3, 1)}, {dir(2), dir(1)},
		{{Ino: 1}}, {dir(1), {Ino: 3}}, {{Ino: 1, Kind: 3}}, {dir(1), {Ino: 2, Kind: -1}}, {dir(1), {Ino: 2, Kind: 1<<32 + 1}}, {dir(1), {Ino: 2, Kind: api.MemberLink}},
		{file(1, 0), file(9, 0)}, {dir(1, to(7)...), dir(9)}, {dir(1), file(2, 0), dir(9)}, {dir(2), dir(2)},
	}
	for _, w := range wild {
		bad = append(bad, []api.Node{dir(w)}, []api.Node{dir(1), dir(w)}, []api.Node{dir(w), dir(1)}, []api.Node{dir(1), {Ino: 2, Kind: w}})
	}
	for _, nodes := range bad {
		judges(t, "inode", small, nodes, api.ErrInode, 0)
	}
}

// TestP11_3AnyShape: of the shape nothing is looked at but Inodes, and that may be any number.
func TestP11_3AnyShape(t *testing.T) {
	far := []api.Node{dir(1, to(math.MaxInt, 1<<40)...), file(1<<40, 1), dir(math.MaxInt)}
	judges(t, "numbers without end", api.Shape{Inodes: math.MaxInt}, far, api.OK, 0)
	judges(t, "one too great", api.Shape{Inodes: math.MaxInt - 1}, far, api.ErrInode, 0)
	judges(t, "one inode", api.Shape{Inodes: 1}, []api.Node{dir(1)}, api.OK, 0)
	for _, inodes := range []int{0, -1, math.MinInt} {
		sh := api.Shape{Pages: 24, Inodes: inodes, Cores: 1, Data: 5}
		judges(t, "no inodes", sh, []api.Node{dir(1)}, api.ErrInode, 0)
		judges(t, "no inodes, no nodes", sh, nil, api.ErrRoot, 1)
	}
	for _, sh := range noShapes {
		if sh.Inodes >= 7 {
			judges(t, "no shape", sh, []api.Node{dir(1, to(7)...), file(7, 1)}, api.OK, 0)
		}
	}
}

// TestP11_3Root: no root, or one that is a file; ahead of the other breaches.
func TestP11_3Root(t *testing.T) {
	judges(t, "an empty list", small, []api.Node{}, api.ErrRoot, 1)
	judges(t, "no root", small, []api.Node{dir(2, to(3)...), file(3, 1)}, api.ErrRoot, 1)
	judges(t, "no root, a name that hangs", small, []api.Node{dir(2, to(4)...)}, api.ErrRoot, 1)
	judges(t, "a file with names", small, []api.Node{{Ino: 1, Kind: api.KindFile, Links: 1, Names: to(2)}, file(2, 1)}, api.ErrRoot, 1)
	judges(t, "a file, a wrong count", small, []api.Node{file(1, 0), file(2, 1)}, api.ErrRoot, 1)
}

// TestP11_3Hang: the least directory with a name for nobody, ahead of wrong counts; wild numbers too.
func TestP11_3Hang(t *testing.T) {
	judges(t, "the root", small, []api.Node{dir(1, to(2)...)}, api.ErrHang, 1)
	judges(t, "the second name", small, []api.Node{dir(1, to(2, 3)...), file(2, 1)}, api.ErrHang, 1)
	judges(t, "below", small, []api.Node{dir(1, to(3)...), dir(3, to(7)...), dir(4, to(8)...)}, api.ErrHang, 3)
	judges(t, "in what is lost", small, []api.Node{dir(1), dir(4, to(5)...), dir(6, to(2)...)}, api.ErrHang, 4)
	judges(t, "and a count", small, []api.Node{dir(1), file(2, 5), dir(3, to(3, 3, 8)...)}, api.ErrHang, 3)
	for _, w := range append([]int{0, 2, 9}, wild...) {
		judges(t, "a number that nobody has", small, []api.Node{dir(1, to(3)...), dir(3, to(w)...)}, api.ErrHang, 3)
		judges(t, "a file's names", small, []api.Node{dir(1, to(3)...), {Ino: 3, Kind: api.KindFile, Links: 1, Names: to(w)}}, api.OK, 0)
	}
}

// TestP11_3Count: the least inode with other names than it wants.
func TestP11_3Count(t *testing.T) {
	judges(t, "the root in itself", small, []api.Node{dir(1, to(1)...)}, api.ErrCount, 1)
	judges(t, "the root and others", small, []api.Node{dir(1, to(2, 2)...), dir(2, to(1)...)}, api.ErrCount, 1)
	judges(t, "a directory without a name", small, []api.Node{dir(1), dir(2)}, api.ErrCount, 2)
	judges(t, "a directory with two", small, []api.Node{dir(1, to(2, 2)...), dir(2)}, api.ErrCount, 2)
	judges(t, "a directory's links aren't looked at", small, []api.Node{dir(1, to(2)...), {Ino: 2, Kind: api.KindDir, Links: 5}}, api.OK, 0)
	judges(t, "nor the root's", small, []api.Node{{Ino: 1, Kind: api.KindDir, Links: -5}}, api.OK, 0)
	judges(t, "a file without a name", small, []api.Node{dir(1), file(2, 1)}, api.ErrCount, 2)
	judges(t, "a file of no links without a name", small, []api.Node{dir(1), file(2, 0)}, api.ErrCount, 2)
	judges(t, "a file of no links with a name", small, []api.Node{dir(1, to(2)...), file(2, 0)}, api.ErrCount, 2)
	judges(t, "a file with a name too few", small, []api.Node{dir(1, to(2, 2)...), file(2, 3)}, api.ErrCount, 2)
	judges(t, "a file with a name too many", small, []api.Node{dir(1, to(2, 2)...), file(2, 1)}, api.ErrCount, 2)
	judges(t, "the least of two", small, []api.Node{dir(1, to(5, 5, 8)...), file(5, 1), file(8, 2)}, api.ErrCount, 5)
	judges(t, "ahead of what is lost", small, []api.Node{dir(1), dir(4, to(5)...), dir(5, to(4)...), file(8, 1)}, api.ErrCount, 8)
	for _, w := range wild {
		judges(t, "wild links", small, []api.Node{dir(1, to(2)...), file(2, w)}, api.ErrCount, 2)
		judges(t, "wild links, no name", small, []api.Node{dir(1), file(2, w)}, api.ErrCount, 2)
	}
	many := make([]api.Dent, 300)
	for i := range many {
		many[i].Ino = 2
	}
	judges(t, "more names than MaxLinks", small, []api.Node{dir(1, many...), file(2, 300)}, api.OK, 0)
	judges(t, "one less", small, []api.Node{dir(1, many...), file(2, 299)}, api.ErrCount, 2)
}

// TestP11_3AsItStands: texts of names aren't looked at.
func TestP11_3AsItStands(t *testing.T) {
	for _, text := range []string{"", ".", "..", "a/b", "a\x00", string(make([]byte, 4000))} {
		names := []api.Dent{{Name: text, Ino: 2}, {Name: text, Ino: 2}, {Name: text, Ino: 3}}
		judges(t, "texts", small, []api.Node{dir(1, names...), file(2, 2), dir(3)}, api.OK, 0)
	}
}

// TestP11_3Lost: the least inode that the root doesn't reach.
func TestP11_3Lost(t *testing.T) {
	judges(t, "in itself", small, []api.Node{dir(1), dir(2, to(2)...)}, api.ErrLost, 2)
	judges(t, "two", small, []api.Node{dir(1, to(2)...), dir(2), dir(4, to(5)...), dir(5, to(4)...)}, api.ErrLost, 4)
	judges(t, "below a ring", small, []api.Node{dir(1), file(2, 1), dir(4, to(5)...), dir(5, to(4, 2)...)}, api.ErrLost, 2)
	judges(t, "a file of a ring that the root has too", small, []api.Node{dir(1, to(2)...), file(2, 2), dir(5, to(6)...), dir(6, to(5, 2)...)}, api.ErrLost, 5)
	judges(t, "a file's names reach nothing", small, []api.Node{dir(1, to(2)...), {Ino: 2, Kind: api.KindFile, Links: 1, Names: to(4)}, dir(4, to(5)...), dir(5, to(4)...)}, api.ErrLost, 4)
	judges(t, "down to smaller numbers", small, []api.Node{dir(1, to(8)...), file(2, 1), dir(4, to(2)...), dir(7, to(4)...), dir(8, to(7)...)}, api.OK, 0)
}

// TestP11_3Deep: a chain of directories, one below the other, as long as a list may be.
func TestP11_3Deep(t *testing.T) {
	const n = 100000
	nodes := make([]api.Node, n)
	for i := range nodes {
		nodes[i] = dir(i + 1)
		if i < n-1 {
			nodes[i].Names = []api.Dent{{Ino: i + 2}}
		}
	}
	sh := api.Shape{Inodes: n}
	judges(t, "deep", sh, nodes, api.OK, 0)
	nodes[n-1].Names = []api.Dent{{Ino: n / 2}}
	nodes[n/2-2].Names = nil
	judges(t, "a long ring", sh, nodes, api.ErrLost, n/2)
}

// TestP11_3Drawn: nodes with a few names to and fro, as the model has it.
func TestP11_3Drawn(t *testing.T) {
	r := chance()
	var seen [120]int
	for range 40000 {
		var nodes []api.Node
		for ino := 1; ino <= 5; ino++ {
			if r.Intn(8) == 0 {
				continue
			}
			n := dir(ino)
			if ino > 1 && r.Intn(2) == 0 || r.Intn(40) == 0 {
				n = file(ino, r.Intn(12)/5)
			}
			for range r.Intn(4) / 2 * (1 + r.Intn(2)) {
				n.Names = append(n.Names, api.Dent{Name: "x", Ino: min(6-r.Intn(5), 5) + r.Intn(40)/39})
			}
			nodes = append(nodes, n)
		}
		sh := api.Shape{Inodes: 5 - r.Intn(30)/29}
		e, at := modelJudge(sh, nodes)
		seen[e]++
		judges(t, "drawn", sh, nodes, e, at)
	}
	for _, e := range []api.Errno{api.OK, api.ErrInode, api.ErrRoot, api.ErrHang, api.ErrCount, api.ErrLost} {
		if seen[e] < 20 {
			t.Errorf("%v came %d times", e, seen[e])
		}
	}
}
