package replay_test

import (
	"errors"
	"math"
	"math/rand"
	"reflect"
	"slices"
	"testing"

	"furrow/api"
	"furrow/codec"
	"furrow/ilog"
	"furrow/inode"
	"furrow/journal"
	"furrow/layout"
	"furrow/replay"
)

// small, middling, large: shapes, from the smallest device to the largest one.
var (
	small    = api.Shape{Pages: 24, Inodes: 8, Cores: 1, Data: 5}
	middling = api.Shape{Pages: 60, Inodes: 24, Cores: 3, Data: 7}
	large    = api.Shape{Pages: 1024, Inodes: 256, Cores: 8, Data: 36}
)

// wild: numbers that are nothing of a device; some of them are good ones when their higher bits are cut off, or when a sum wraps round.
var wild = []int{-1, -8, -24, -512, 1 << 31, 1<<32 + 1, 1<<32 + 5, 1<<32 + 8, 1 << 62, math.MaxInt, math.MaxInt - 1, math.MaxInt - 5, math.MaxInt - 23, math.MinInt, math.MinInt + 1, math.MinInt + 5, math.MinInt + 24, -1<<32 + 7}

// noShapes: shapes that no Super has.
var noShapes = []api.Shape{{}, {Pages: 24, Inodes: 8, Cores: 1}, {Pages: 24, Inodes: 8, Cores: 1, Data: 4}, {Pages: 24, Inodes: 8, Cores: 1, Data: 6}, {Pages: 24, Inodes: 8, Data: 5}, {Pages: 24, Inodes: 8, Cores: 9, Data: 5}, {Pages: 23, Inodes: 8, Cores: 1, Data: 5}, {Pages: 24, Inodes: 7, Cores: 1, Data: 5}, {Pages: 24, Inodes: 104, Cores: 1, Data: 17}, {Pages: -24, Inodes: -8, Cores: -1, Data: -5}, {Pages: math.MaxInt, Inodes: math.MaxInt - 7, Cores: 1, Data: 5}, {Pages: math.MinInt, Inodes: math.MinInt, Cores: math.MinInt, Data: math.MinInt}, {Pages: 1<<55 + 24, Inodes: 8, Cores: 1, Data: 5}}

func chance() *rand.Rand { return rand.New(rand.NewSource(11)) }

// disk: a device's bytes that are put together.
type disk struct {
	t  *testing.T
	sh api.Shape
	b  []byte
}

// formatted: a superblock, the root with an empty log, and zeros.
func formatted(t *testing.T, sh api.Shape) *disk {
	t.Helper()
	d := &disk{t, sh, make([]byte, 512*sh.Pages)}
	d.super()
	d.slot(1, api.Slot{Kind: api.KindDir, Links: 1})
	return d
}

// scribbled: as formatted, but with anything at all where Replay has nothing to look at.
func scribbled(t *testing.T, r *rand.Rand, sh api.Shape) *disk {
	t.Helper()
	d := &disk{t, sh, make([]byte, 512*sh.Pages)}
	r.Read(d.b)
	d.super()
	d.put(512, 0)
	for ino := 2; ino <= sh.Inodes; ino++ {
		d.slot(ino, api.Slot{})
	}
	d.slot(1, api.Slot{Kind: api.KindDir, Links: 1})
	return d
}

func (d *disk) super() {
	d.t.Helper()
	l, e := layout.PackSuper(api.Super{Pages: d.sh.Pages, Inodes: d.sh.Inodes, Cores: d.sh.Cores})
	if e != api.OK {
		d.t.Fatal("PackSuper", e)
	}
	copy(d.b, l[:])
	copy(d.b[64:], l[:])
}

func (d *disk) put(at int, w uint64) { copy(d.b[at:], codec.Bytes(w)) }

func (d *disk) word(at int) uint64 {
	w, _ := codec.Word(d.b, at)
	return w
}

// hold stores a number, sealed for its address.
func (d *disk) hold(at, v int) { d.put(at, codec.Seal(at, uint32(v))) }

// slot stores of a slot's words those that are looked at.
func (d *disk) slot(ino int, s api.Slot) {
	at := layout.SlotAt(ino)
	d.hold(at, s.Kind+256*s.Links)
	if s.Kind == api.KindFree {
		return
	}
	d.hold(at+16, s.Tail)
	if s.Tail != 0 {
		d.hold(at+8, s.Head)
	}
}

// opened: the slot as the table has it.
func (d *disk) opened(ino int) (api.Slot, api.Errno) {
	at := layout.SlotAt(ino)
	return layout.OpenSlot(ino, [3]uint64{d.word(at), d.word(at + 8), d.word(at + 16)})
}

// line stores an entry in a place of a page, from 1 to 7.
func (d *disk) line(page, place int, e api.Entry) {
	d.t.Helper()
	l, no := layout.PackEntry(e)
	if no != api.OK {
		d.t.Fatalf("PackEntry(%+v): %v", e, no)
	}
	copy(d.b[512*page+64*place:], l[:])
}

// log stores an inode's log in these pages, and its slot. Of the last page's header the word that names the next one stays as it is.
func (d *disk) log(ino, kind, links int, pages []int, entries ...api.Entry) api.Slot {
	d.t.Helper()
	s := api.Slot{Kind: kind, Links: links}
	for i, e := range entries {
		e.Seq = uint64(i + 1)
		page := pages[i/7]
		d.line(page, 1+i%7, e)
		d.hold(512*page+8, ino)
		if i/7 > 0 {
			d.hold(512*pages[i/7-1], page)
		}
		s.Head, s.Tail = pages[0], 512*page+64*(2+i%7)
	}
	d.slot(ino, s)
	return s
}

// pending lays down a journal with these words' values, and spoils the words.
func (d *disk) pending(r *rand.Rand, at ...int) {
	d.t.Helper()
	var list []api.Undo
	for _, a := range at {
		list = append(list, api.Undo{At: a, Old: d.word(a)})
		d.put(a, r.Uint64())
	}
	page, e := layout.PackUndo(list)
	if e != api.OK {
		d.t.Fatalf("PackUndo(%v): %v", list, e)
	}
	copy(d.b[512:], page)
}

// copied: a disk of its own with the same bytes.
func (d *disk) copied() *disk { return &disk{d.t, d.sh, slices.Clone(d.b)} }

func add(name string, ino int) api.Entry { return api.Entry{Kind: api.EntAdd, Name: name, Ino: ino} }

func drop(name string) api.Entry { return api.Entry{Kind: api.EntDrop, Name: name} }

func write(off, count, page, size int) api.Entry {
	return api.Entry{Kind: api.EntWrite, Off: off, Count: count, Page: page, Size: size}
}

func sized(size int) api.Entry { return api.Entry{Kind: api.EntSize, Size: size} }

func dir(ino int, names ...api.Dent) api.Node {
	return api.Node{Ino: ino, Kind: api.KindDir, Links: 1, Names: names}
}

func file(ino, links int) api.Node { return api.Node{Ino: ino, Kind: api.KindFile, Links: links} }

// to: names for these inodes.
func to(inos ...int) []api.Dent {
	var l []api.Dent
	for i, ino := range inos {
		l = append(l, api.Dent{Name: string(rune('a' + i)), Ino: ino})
	}
	return l
}

func run(off, page, count int) api.Run { return api.Run{Off: off, Page: page, Count: count} }

func sameNode(a, b api.Node) bool {
	return a.Ino == b.Ino && a.Kind == b.Kind && a.Links == b.Links && a.Size == b.Size && a.Head == b.Head && a.Tail == b.Tail && a.Entries == b.Entries &&
		slices.Equal(a.Map, b.Map) && slices.Equal(a.Names, b.Names) && slices.Equal(a.Log, b.Log)
}

func sameState(a, b api.State) bool {
	return a.Shape == b.Shape && slices.EqualFunc(a.Nodes, b.Nodes, sameNode) && slices.Equal(a.Free, b.Free)
}

// means: whether Replay answers this state.
func means(t *testing.T, what string, b []byte, want api.State) {
	t.Helper()
	if st, err := replay.Replay(b); err != nil || !sameState(st, want) {
		t.Errorf("%s: Replay = %+v, %v; want %+v", what, st, err, want)
	}
}

// corrupt: whether Replay answers this reason and place, and nothing with them.
func corrupt(t *testing.T, what string, b []byte, reason api.Errno, place int) {
	t.Helper()
	st, err := replay.Replay(b)
	c, is := err.(*api.CorruptError)
	if !is || c == nil || *c != (api.CorruptError{Reason: reason, Place: place}) || !errors.Is(err, api.ErrCorrupt) || !reflect.DeepEqual(st, api.State{}) {
		t.Errorf("%s: Replay = %+v, %v; want %v at %d", what, st, err, reason, place)
	}
}

// scans: whether Scan answers this node.
func scans(t *testing.T, what string, d *disk, want api.Node) {
	t.Helper()
	if n, e := replay.Scan(d.b, d.sh, want.Ino); e != api.OK || !sameNode(n, want) {
		t.Errorf("%s: Scan(%d) = %+v, %v; want %+v", what, want.Ino, n, e, want)
	}
}

// unscanned: whether Scan answers this error, and nothing with it.
func unscanned(t *testing.T, what string, b []byte, sh api.Shape, ino int, want api.Errno) {
	t.Helper()
	if n, e := replay.Scan(b, sh, ino); e != want || !reflect.DeepEqual(n, api.Node{}) {
		t.Errorf("%s: Scan(%v, %d) = %+v, %v; want %v", what, sh, ino, n, e, want)
	}
}

// owners: whether Owners answers these.
func owners(t *testing.T, what string, sh api.Shape, nodes []api.Node, want []int, no api.Errno) {
	t.Helper()
	if l, e := replay.Owners(sh, nodes); e != no || !slices.Equal(l, want) {
		t.Errorf("%s: Owners(%v, %+v) = %v, %v; want %v, %v", what, sh, nodes, l, e, want, no)
	}
}

// judges: whether Judge answers these.
func judges(t *testing.T, what string, sh api.Shape, nodes []api.Node, want api.Errno, place int) {
	t.Helper()
	if e, at := replay.Judge(sh, nodes); e != want || at != place {
		t.Errorf("%s: Judge(%v, %+v) = %v, %d; want %v, %d", what, sh, nodes, e, at, want, place)
	}
}

// modelScan: P11.1, in its words, for a shape that fits and an inode of it.
func modelScan(d *disk, ino int) (api.Node, api.Errno) {
	s, e := d.opened(ino)
	switch {
	case e != api.OK:
		return api.Node{}, api.ErrSlot
	case s.Kind == api.KindFree:
		return api.Node{Ino: ino}, api.OK
	}
	es, ps, e := ilog.Walk(d.b, d.sh, ino, s)
	if e != api.OK {
		return api.Node{}, e
	}
	n, e := inode.Replay(s.Kind, es)
	if e != api.OK {
		return api.Node{}, e
	}
	return api.Node{Ino: ino, Kind: s.Kind, Links: s.Links, Size: n.Size, Map: n.Map, Names: n.Names, Head: s.Head, Tail: s.Tail, Log: ps, Entries: len(es)}, api.OK
}

// modelOwners: P11.2, in its words, for a shape that is one.
func modelOwners(sh api.Shape, nodes []api.Node) ([]int, api.Errno) {
	var all []int
	for _, n := range nodes {
		all = append(all, n.Log...)
		for _, r := range n.Map {
			if r.Count < 1 || r.Count > 1024 || r.Page < 0 || r.Page > 1024 {
				return nil, api.ErrRange
			}
			for i := range r.Count {
				all = append(all, r.Page+i)
			}
		}
	}
	slices.Sort(all)
	if len(all) > 0 && (all[0] < sh.Data || all[len(all)-1] >= sh.Pages) {
		return nil, api.ErrRange
	}
	for i := range all {
		if i > 0 && all[i] == all[i-1] {
			return all[i : i+1], api.ErrTwice
		}
	}
	return all, api.OK
}

// names: the numbers that the directories have names for, with the directories' own.
func names(nodes []api.Node) (pairs [][2]int) {
	for _, n := range nodes {
		for _, d := range n.Names {
			if n.Kind == api.KindDir {
				pairs = append(pairs, [2]int{n.Ino, d.Ino})
			}
		}
	}
	return pairs
}

func numbers(nodes []api.Node) (l []int) {
	for _, n := range nodes {
		l = append(l, n.Ino)
	}
	return l
}

// modelJudge: P11.3, in its words.
func modelJudge(sh api.Shape, nodes []api.Node) (api.Errno, int) {
	for i, n := range nodes {
		if i > 0 && n.Ino <= nodes[i-1].Ino || n.Ino < 1 || n.Ino > sh.Inodes || n.Kind != 1 && n.Kind != 2 {
			return api.ErrInode, 0
		}
	}
	if len(nodes) == 0 || nodes[0].Ino != 1 || nodes[0].Kind != api.KindDir {
		return api.ErrRoot, 1
	}
	pairs := names(nodes)
	for _, p := range pairs {
		if !slices.Contains(numbers(nodes), p[1]) {
			return api.ErrHang, p[0]
		}
	}
	for _, n := range nodes {
		have := 0
		for _, p := range pairs {
			if p[1] == n.Ino {
				have++
			}
		}
		want := 1
		if n.Ino == 1 {
			want = 0
		} else if n.Kind == api.KindFile {
			want = n.Links
		}
		if have != want || n.Kind == api.KindFile && have == 0 {
			return api.ErrCount, n.Ino
		}
	}
	reached := []int{1}
	for range nodes {
		for _, p := range pairs {
			if slices.Contains(reached, p[0]) && !slices.Contains(reached, p[1]) {
				reached = append(reached, p[1])
			}
		}
	}
	for _, n := range nodes {
		if !slices.Contains(reached, n.Ino) {
			return api.ErrLost, n.Ino
		}
	}
	return api.OK, 0
}

// modelReplay: P11.4, in its words.
func modelReplay(t *testing.T, b []byte) (api.State, api.Errno, int) {
	t.Helper()
	sh, e := layout.FindSuper(b)
	if e != api.OK {
		return api.State{}, api.ErrSuper, 0
	}
	over, e := journal.Overlay(b)
	if e != api.OK {
		return api.State{}, e, 512
	}
	st := api.State{Shape: sh}
	for ino := 1; ino <= sh.Inodes; ino++ {
		n, e := modelScan(&disk{t, sh, over}, ino)
		if e != api.OK {
			return api.State{}, e, ino
		}
		if n.Kind != api.KindFree {
			st.Nodes = append(st.Nodes, n)
		}
	}
	pages, e := modelOwners(sh, st.Nodes)
	if e != api.OK {
		return api.State{}, e, pages[0]
	}
	if e, at := modelJudge(sh, st.Nodes); e != api.OK {
		return api.State{}, e, at
	}
	st.Free = rest(sh, pages)
	return st, api.OK, 0
}

// rest: the pages of the data area that aren't among these, one by one put to the span before them.
func rest(sh api.Shape, pages []int) []api.Span {
	var l []api.Span
	for p := sh.Data; p < sh.Pages; p++ {
		switch {
		case slices.Contains(pages, p):
		case len(l) > 0 && l[len(l)-1].From+l[len(l)-1].Count == p:
			l[len(l)-1].Count++
		default:
			l = append(l, api.Span{From: p, Count: 1})
		}
	}
	return l
}

// asModel: whether Replay answers what the model does; the model's reason.
func asModel(t *testing.T, what string, b []byte) api.Errno {
	t.Helper()
	want, reason, place := modelReplay(t, b)
	if reason != api.OK {
		corrupt(t, what, b, reason, place)
		return reason
	}
	means(t, what, b, want)
	return api.OK
}
