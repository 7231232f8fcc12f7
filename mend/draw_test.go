package mend_test

import (
	"math/rand"
	"slices"
	"strings"
	"testing"

	"furrow/api"
	"furrow/codec"
	"furrow/layout"
	"furrow/mend"
)

// draft: an image that is being drawn: what its inodes are to be, and how often something is wrong with it.
type draft struct {
	r     *rand.Rand
	d     *disk
	kinds []int // by number; what has a broken slot is -1
	stock []int // the pages that nobody has
	wrong int   // of twenty names, pages and so on so many are any at all
	long  int   // of ten names so many are long ones
	seen  map[int]bool
}

// take: a page that nobody has; 0, if there is none left.
func (f *draft) take() int {
	if len(f.stock) == 0 {
		return 0
	}
	p := f.stock[0]
	f.stock = f.stock[1:]
	return p
}

// text: a name: one of few, the names of what is lost among them, and those whose bytes stand next to the slash's.
func (f *draft) text() string {
	if f.r.Intn(10) < f.long {
		return strings.Repeat(pick(f.r, "l", "m"), 28-f.r.Intn(2)) // some of 27 bytes
	}
	if f.r.Intn(6) == 0 {
		return pick(f.r, "lost", "lost", "lost+", "lost++", "2", "10", "\xff", "...")
	}
	return pick(f.r, "a", "b", "c") + pick(f.r, "", "", ".", "-", "0", "\x01", "a")
}

// target: what a name stands for: mostly something that has none yet.
func (f *draft) target() int {
	if f.r.Intn(20) >= f.wrong {
		for _, i := range f.r.Perm(len(f.kinds) - 2) {
			if ino := i + 2; f.kinds[ino] > 0 && !f.seen[ino] {
				f.seen[ino] = true
				return ino
			}
		}
	}
	return 2 + f.r.Intn(len(f.kinds)-2)
}

// directory: entries of one, some of whose names came and went.
func (f *draft) directory(most int) []api.Entry {
	var l []api.Entry
	var names []string
	for range f.r.Intn(most + 1) {
		n := f.text()
		switch {
		case !slices.Contains(names, n):
			names = append(names, n)
			l = append(l, api.Entry{Kind: api.EntAdd, Name: n, Ino: f.target()})
		case f.r.Intn(3) == 0:
			names = slices.DeleteFunc(names, func(o string) bool { return o == n })
			l = append(l, api.Entry{Kind: api.EntDrop, Name: n})
		}
	}
	return l
}

// fill lays bytes into a page: any, zeros, zeros up to somewhere, a byte at one end.
func (f *draft) fill(page int) {
	b := f.d.b[512*page:][:512]
	clear(b)
	switch f.r.Intn(6) {
	case 0:
		b[0] = 1
	case 1:
		b[511] = 255
	case 2:
		f.r.Read(b[f.r.Intn(512):])
	case 3:
		f.r.Read(b)
	case 4:
		b[f.r.Intn(512)] = 9
	}
}

// content: entries of a file, of pages that are its own, or anybody's.
func (f *draft) content() []api.Entry {
	var l []api.Entry
	for range f.r.Intn(5) {
		size := pick(f.r, 0, 1, 511, 512, 513, 600, f.r.Intn(4000), api.MaxSize)
		page := f.take()
		if page > 0 {
			f.fill(page)
		}
		if page == 0 || f.r.Intn(20) < f.wrong {
			page = f.d.sh.Data + f.r.Intn(f.d.sh.Pages-f.d.sh.Data)
		}
		count := 1
		if f.r.Intn(20) < f.wrong {
			count = min(1+f.r.Intn(4), f.d.sh.Pages-page)
		}
		if f.r.Intn(4) == 0 {
			l = append(l, sized(size))
		} else {
			l = append(l, write(f.r.Intn(6), count, page, size))
		}
	}
	return l
}

// lay stores an inode; if no page is left for its log, it has as much of it as there is.
func (f *draft) lay(ino, most int) {
	switch f.kinds[ino] {
	case -1:
		f.d.spoil(ino)
		return
	case api.KindFree:
		return
	}
	links := 1
	l := f.directory(most)
	if f.kinds[ino] == api.KindFile {
		l = f.content()
		links = pick(f.r, 1, 1, 1, 2, 3, 100)
	}
	var pages []int
	for 7*len(pages) < len(l) && len(f.stock) > 0 {
		pages = append(pages, f.take())
	}
	l = l[:min(len(l), 7*len(pages))]
	f.d.log(ino, f.kinds[ino], links, pages, l...)
	if len(l) > 0 && f.r.Intn(60) < f.wrong { // a bit of the log is turned
		at := 512*pick(f.r, pages...) + pick(f.r, f.r.Intn(16), f.r.Intn(512))
		f.d.b[at] ^= 1 << f.r.Intn(8)
	}
}

// books draws the journal: mostly an empty one, else one with records, or a broken one.
func (f *draft) books() {
	switch f.r.Intn(8) {
	case 0:
		f.d.unwind()
	case 1, 2:
		var l []api.Change
		for _, i := range f.r.Perm(3 * f.d.sh.Inodes)[:1+f.r.Intn(8)] {
			l = append(l, api.Change{At: layout.SlotAt(1+i/3) + 8*(i%3), New: pick(f.r, 0, f.r.Uint64())})
		}
		f.d.pending(l...)
	}
}

// drawn: an image of which much or little is wrong.
func drawn(t *testing.T, r *rand.Rand, s api.Super) *disk {
	t.Helper()
	f := &draft{r: r, d: blank(t, s), wrong: r.Intn(8), long: pick(r, 0, 0, 0, 3, 9), seen: map[int]bool{}}
	f.kinds = make([]int, f.d.sh.Inodes+1)
	full, dirs := 1+r.Intn(9), 1+r.Intn(9)
	if f.long == 9 { // deep down there are long paths
		full, dirs = 9, 9
	}
	for ino := range f.kinds {
		switch {
		case r.Intn(10) > full:
		case r.Intn(60) < f.wrong:
			f.kinds[ino] = -1
		case r.Intn(10) < dirs:
			f.kinds[ino] = api.KindDir
		default:
			f.kinds[ino] = api.KindFile
		}
	}
	if r.Intn(8) > 0 {
		f.kinds[1] = api.KindDir
	}
	for _, i := range r.Perm(f.d.sh.Pages - f.d.sh.Data) {
		f.stock = append(f.stock, f.d.sh.Data+i)
	}
	f.lay(1, 8)
	for _, i := range r.Perm(f.d.sh.Inodes - 1) {
		f.lay(i+2, pick(r, 2, 3, 12))
	}
	f.books()
	return f.d
}

// P22.1 to P22.7: images of which much or little is wrong are told as the chapter's words have it.
func TestDrawnImages(t *testing.T) {
	r := chance()
	told := map[api.Errno]int{}
	for k := range 3000 {
		d := drawn(t, r, pick(r, small, small, middling, api.Super{Pages: 40, Inodes: 40, Cores: 1}))
		judged(t, "drawn", d.b)
		for _, b := range mend.Breaches(d.b) {
			told[b.Reason]++
		}
		_, losses := mend.Rescue(d.b)
		for _, l := range losses {
			told[1000+l.Reason]++
		}
		if k%50 == 0 {
			d = drawn(t, r, pick(r, wide, large))
			judged(t, "a large one", d.b)
		}
	}
	for _, e := range []api.Errno{api.ErrUndo, api.ErrSlot, api.ErrHeader, api.ErrEntry, api.ErrTwice, api.ErrRoot, api.ErrHang, api.ErrCount, api.ErrLost} {
		if told[e] < 20 {
			t.Errorf("%v was told as a breach %d times alone", e, told[e])
		}
	}
	for _, e := range []api.Errno{api.ErrUndo, api.ErrSlot, api.ErrTwice, api.ErrRoot, api.ErrHang, api.ErrPathLong, api.ErrCount, api.ErrLost} {
		if told[1000+e] < 20 {
			t.Errorf("%v was told as a loss %d times alone", e, told[1000+e])
		}
	}
}

// P22.1 to P22.7: bytes of a drawn image that are spoilt, anywhere.
func TestSpoiltBytes(t *testing.T) {
	r := chance()
	for range 1500 {
		d := drawn(t, r, small)
		for range 1 + r.Intn(3) {
			at := pick(r, r.Intn(len(d.b)), r.Intn(1024), 2048+r.Intn(512), 2048+64*r.Intn(8)+r.Intn(24))
			switch r.Intn(3) {
			case 0:
				d.b[at] ^= 1 << r.Intn(8)
			case 1:
				d.b[at] = byte(r.Intn(256))
			default: // a word that is another's, or holds any number
				at &^= 7
				d.put(at, pick(r, d.word(8*r.Intn(len(d.b)/8)), codec.Seal(at, uint32(r.Intn(1<<14)))))
			}
		}
		judged(t, "spoilt", d.b)
	}
}
