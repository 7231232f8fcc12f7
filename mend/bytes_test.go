package mend_test

import (
	"strings"
	"testing"

	"furrow/api"
	"furrow/mend"
)

func piece(off int, data string) api.Piece { return api.Piece{Off: off, Data: data} }

// page: a text with zeros behind it, 512 bytes in all.
func page(s string) string { return s + strings.Repeat("\x00", 512-len(s)) }

// P22.6: the pieces are the pages that aren't all zeros, the last one up to the file's size.
func TestP22_6Pieces(t *testing.T) {
	d := formatted(t, small)
	d.dir(1, 9, to("f", 2))
	d.written(2, 10, write(0, 3, 15, 1500), write(5, 1, 20, 3072))
	copy(d.b[512*16:], "middle")
	copy(d.b[512*17:], page("")[:511]+"z")
	copy(d.b[512*20:], page("")[:511]+"z")
	d.members("holes and zeros", aFile("f", 3072, piece(512, page("middle")), piece(1024, page("")[:511]+"z"), piece(2560, page("")[:511]+"z")))
	d.written(2, 10, write(0, 3, 15, 1500), write(5, 1, 20, 3071))
	d.members("the last byte is behind the size", aFile("f", 3071, piece(512, page("middle")), piece(1024, page("")[:511]+"z")))
	d.written(2, 10, write(0, 3, 15, 1025))
	d.b[512*17] = 'y'
	d.members("one byte of the last page", aFile("f", 1025, piece(512, page("middle")), piece(1024, "y")))
	d.written(2, 10, write(0, 3, 15, 1024))
	d.members("a whole number of pages", aFile("f", 1024, piece(512, page("middle"))))
	d.written(2, 10, write(0, 3, 15, 1024), sized(515), sized(2000))
	d.members("cut and grown again: what stood behind the cut comes to light", aFile("f", 2000, piece(512, page("middle"))))
	d.written(2, 10, write(0, 3, 15, 1024), sized(0), sized(2000))
	d.members("cut to nothing and grown again", aFile("f", 2000))
	d.written(2, 10, write(511, 1, 16, 262144), write(3, 1, 23, 262144))
	copy(d.b[512*23:], "the device's last page")
	d.members("the greatest size", aFile("f", 262144, piece(1536, page("the device's last page")), piece(511*512, page("middle"))))
	d.written(2, 10, sized(262144))
	d.members("the greatest size, no page", aFile("f", 262144))
}

// P22.6: a file's first place is the first in the members' order, not the first that was found.
func TestP22_6FirstPlace(t *testing.T) {
	d := formatted(t, small)
	d.dir(1, 9, to("z", 2))
	d.written(2, 10, write(0, 1, 15, 3))
	copy(d.b[512*15:], "xyz")
	d.dir(5, 11, to("f", 2))
	d.dir(7, 12, to("d", 5), to("e", 2))
	d.members("in what is lost", aDir("lost"), aDir("lost/7"), aDir("lost/7/d"), aFile("lost/7/d/f", 3, piece(0, "xyz")), aLink("lost/7/e", "lost/7/d/f"), aLink("z", "lost/7/d/f"))
	d.dir(1, 9, to("a-", 2), to("a", 3))
	d.dir(3, 13, to("z", 2))
	d.members("ahead by names", aDir("a"), aFile("a/z", 3, piece(0, "xyz")), aLink("a-", "a/z"), aDir("lost"), aDir("lost/7"), aDir("lost/7/d"), aLink("lost/7/d/f", "a/z"), aLink("lost/7/e", "a/z"))
}

// P22.6: pages are those of the base: that the image's table says otherwise isn't looked at.
func TestP22_6Base(t *testing.T) {
	d := formatted(t, small)
	d.dir(1, 9, to("f", 2))
	d.written(2, 10, write(0, 1, 15, 3))
	copy(d.b[512*15:], "old")
	was := d.word(2112 + 16)
	at := d.word(2112 + 8)
	d.written(2, 11, write(0, 1, 16, 3))
	copy(d.b[512*16:], "new")
	nowTail, nowHead := d.word(2112+16), d.word(2112+8)
	d.members("no journal", aFile("f", 3, piece(0, "new")))
	d.put(2112+16, was)
	d.put(2112+8, at)
	d.pending(api.Change{At: 2112 + 16, New: nowTail}, api.Change{At: 2112 + 8, New: nowHead})
	d.members("rolled back", aFile("f", 3, piece(0, "old")))
	d.put(520, 7)
	d.members("not to be rolled back", aFile("f", 3, piece(0, "new")))
	d.losses("not to be rolled back", loss(api.ErrUndo, api.JournalAt))
}

// P22.6: a file of as many pages as there are.
func TestP22_6AllPages(t *testing.T) {
	d := formatted(t, large)
	d.dir(1, 36, to("f", 2), to("g", 3))
	for k := range 490 {
		copy(d.b[512*(40+k):], page("f")[:511]+"f")
		copy(d.b[512*(530+k):], "g")
	}
	var f, g []api.Entry
	for k := 0; k < 490; k += 14 {
		f = append(f, write(k, 14, 40+k, 262144))
		g = append(g, write(k, 14, 530+k, 262144))
	}
	d.log(2, api.KindFile, 1, []int{37, 1020, 1021, 1022, 1023}, f...)
	d.breaches("g isn't there", breach(api.ErrHang, 1))
	d.log(3, api.KindFile, 1, []int{38, 39, 530, 531, 532}, g...)
	d.breaches("g", breach(api.ErrTwice, 530), breach(api.ErrTwice, 531), breach(api.ErrTwice, 532))
	d.losses("g", loss(api.ErrTwice, 3), unnamed(api.ErrHang, 1, "g"))
	members, _ := mend.Rescue(d.b)
	if len(members) != 1 || len(members[0].Pieces) != 490 || members[0].Pieces[489] != piece(489*512, page("f")[:511]+"f") {
		t.Errorf("P22.6: %s", shown(members))
	}
	judged(t, "all pages", d.b)
}
