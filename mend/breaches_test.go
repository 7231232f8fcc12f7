package mend_test

import (
	"testing"

	"furrow/api"
)

// P22.1, 1: where there is no superblock nothing else is told, whatever stands there.
func TestP22_1NoSuperblock(t *testing.T) {
	d := four(t)
	d.unwind()
	d.spoil(2)
	d.b[0]++
	d.breaches("the copy counts", breach(api.ErrUndo, 512), breach(api.ErrSlot, 2), breach(api.ErrHang, 1))
	d.b[64]++
	d.breaches("both lines are spoilt", breach(api.ErrSuper, 0))
	for _, many := range []int{1, 127, 128, 512, 12287, 12289, 12800} {
		long := append(four(t).b, make([]byte, 512)...)
		short := &disk{t: t, b: long[:many]}
		short.breaches("another length", breach(api.ErrSuper, 0))
		short.losses("another length", loss(api.ErrSuper, 0))
		short.members("another length")
	}
}

// P22.1, 2: of a broken journal the image counts as it stands; of another one the overlay.
func TestP22_1Journal(t *testing.T) {
	d := four(t)
	d.pending(api.Change{At: 2112, New: 7}, api.Change{At: 2048, New: 7})
	d.breaches("the words were right")
	d.members("the words were right", aFile("a", 0), aLink("b", "a"))
	d.losses("the words were right")
	d.put(520, 7)
	d.breaches("the words can't be put back", breach(api.ErrUndo, 512), breach(api.ErrSlot, 1), breach(api.ErrSlot, 2), breach(api.ErrRoot, 1))
	d.losses("the words can't be put back", loss(api.ErrUndo, 512), loss(api.ErrSlot, 1), loss(api.ErrSlot, 2), loss(api.ErrRoot, 1))
	d = four(t)
	d.put(2112, 7)
	right := four(t).word(2112)
	d.pending(api.Change{At: 2112, New: right})
	d.breaches("the word was wrong", breach(api.ErrSlot, 2), breach(api.ErrHang, 1))
	d.put(520, 7)
	d.breaches("the word is right", breach(api.ErrUndo, 512))
	d.members("the word is right", aFile("a", 0), aLink("b", "a"))
	d.losses("the word is right", loss(api.ErrUndo, 512))
}

// P22.1, 3: each inode that is refused, rising, with its own reason: those of the table's end too.
func TestP22_1Refused(t *testing.T) {
	d := four(t)
	d.spoil(8)
	d.slot(7, api.KindFile, 1, 20, 20*512+128) // a page of zeros: no header
	d.written(6, 19, sized(5))
	d.b[19*512+100]++
	d.written(5, 18, sized(5), sized(6))
	copy(d.b[18*512+128:], d.b[18*512+64:18*512+128])
	d.log(4, api.KindDir, 1, []int{17}, sized(5))
	d.breaches("five kinds", breach(api.ErrMeaning, 4), breach(api.ErrLog, 5), breach(api.ErrEntry, 6), breach(api.ErrHeader, 7), breach(api.ErrSlot, 8))
	d.losses("five kinds", loss(api.ErrMeaning, 4), loss(api.ErrLog, 5), loss(api.ErrEntry, 6), loss(api.ErrHeader, 7), loss(api.ErrSlot, 8))
	d.members("five kinds", aFile("a", 0), aLink("b", "a"))
}

// P22.1, 4: each page that is named more than once, however it comes to that.
func TestP22_1Shared(t *testing.T) {
	d := four(t)
	d.dir(1, 9, to("a", 2), to("b", 3), to("c", 4), to("d", 5))
	d.written(2, 10, write(0, 3, 14, 1536), write(5, 1, 15, 3000)) // its own page twice
	d.written(3, 11, write(0, 1, 11, 5))                           // its own log
	d.written(4, 12, write(0, 1, 9, 5), write(1, 1, 16, 600))      // the root's log, and a page of 2
	d.written(5, 13, write(0, 2, 22, 1000))                        // pages of its own, up to the last one
	d.breaches("four ways", breach(api.ErrTwice, 9), breach(api.ErrTwice, 11), breach(api.ErrTwice, 15), breach(api.ErrTwice, 16))
	d.losses("four ways", loss(api.ErrTwice, 2), loss(api.ErrTwice, 3), loss(api.ErrTwice, 4), unnamed(api.ErrHang, 1, "a"), unnamed(api.ErrHang, 1, "b"), unnamed(api.ErrHang, 1, "c"))
	d.members("four ways", aFile("d", 1000))
}

// P22.1, 4: a page that was let go again isn't named, and what a refused inode names doesn't count.
func TestP22_1NotShared(t *testing.T) {
	d := four(t)
	d.written(2, 10, write(0, 2, 14, 1000), sized(512), sized(1000))
	d.dir(1, 9, to("a", 2), to("b", 3))
	d.written(3, 11, write(0, 2, 15, 1000))
	d.breaches("cut off")
	d.members("cut off", aFile("a", 1000), aFile("b", 1000))
	d.written(4, 12, write(0, 2, 14, 1000))
	d.b[12*512+64]++
	d.breaches("an inode that is refused", breach(api.ErrEntry, 4))
	d.members("an inode that is refused", aFile("a", 1000), aFile("b", 1000))
	d.losses("an inode that is refused", loss(api.ErrEntry, 4))
}

// P22.1, 5: the root isn't there, or is a file; then nothing is reached.
func TestP22_1Root(t *testing.T) {
	d := four(t)
	d.slot(1, api.KindFree, 0, 0, 0)
	d.breaches("no root", breach(api.ErrRoot, 1), breach(api.ErrCount, 2), breach(api.ErrLost, 2))
	d.losses("no root", loss(api.ErrRoot, 1), loss(api.ErrLost, 2))
	d.members("no root", aDir("lost"), aFile("lost/2", 0))
	d.file(1, 1)
	d.breaches("the root a file", breach(api.ErrRoot, 1), breach(api.ErrCount, 2), breach(api.ErrLost, 1), breach(api.ErrLost, 2))
	d.losses("the root a file", loss(api.ErrRoot, 1), loss(api.ErrLost, 1), loss(api.ErrLost, 2))
	d.members("the root a file", aDir("lost"), aFile("lost/1", 0), aFile("lost/2", 0))
	d.file(1, 7)
	d.breaches("the root a file of seven links", breach(api.ErrRoot, 1), breach(api.ErrCount, 2), breach(api.ErrLost, 1), breach(api.ErrLost, 2))
	d.written(1, 10, write(0, 1, 10, 5))
	d.breaches("the root a file with a shared page", breach(api.ErrTwice, 10), breach(api.ErrRoot, 1), breach(api.ErrCount, 2), breach(api.ErrLost, 1), breach(api.ErrLost, 2))
	d.losses("the root a file with a shared page", loss(api.ErrTwice, 1), loss(api.ErrRoot, 1), loss(api.ErrLost, 2))
	d.members("the root a file with a shared page", aDir("lost"), aFile("lost/2", 0))
	b := blank(t, small)
	b.breaches("no inode at all", breach(api.ErrRoot, 1))
	b.losses("no inode at all", loss(api.ErrRoot, 1))
	b.members("no inode at all")
}

// P22.1, 6: each directory once; those that aren't reached too.
func TestP22_1Hanging(t *testing.T) {
	d := formatted(t, small)
	d.dir(1, 9, to("a", 5), to("b", 5), to("c", 2), to("d", 6))
	d.dir(2, 10)
	d.dir(3, 11, to("x", 8))
	d.dir(4, 12, to("y", 2))
	d.spoil(6)
	d.breaches("two of three", breach(api.ErrSlot, 6), breach(api.ErrHang, 1), breach(api.ErrHang, 3), breach(api.ErrCount, 2), breach(api.ErrCount, 3), breach(api.ErrCount, 4), breach(api.ErrLost, 3), breach(api.ErrLost, 4))
	d.losses("two of three", loss(api.ErrSlot, 6), unnamed(api.ErrHang, 1, "a"), unnamed(api.ErrHang, 1, "b"), unnamed(api.ErrHang, 1, "d"), loss(api.ErrLost, 3), unnamed(api.ErrHang, 3, "x"), loss(api.ErrLost, 4), unnamed(api.ErrCount, 4, "y"))
	d.members("two of three", aDir("c"), aDir("lost"), aDir("lost/3"), aDir("lost/4"))
}

// P22.1, 6: a file that shares a page is a node all the same: its names don't hang; in a rescue they do.
func TestP22_1HangingAndShared(t *testing.T) {
	d := formatted(t, small)
	d.dir(1, 9, to("f", 2))
	d.written(2, 10, write(0, 1, 10, 5))
	d.breaches("a name for it", breach(api.ErrTwice, 10))
	d.losses("a name for it", loss(api.ErrTwice, 2), unnamed(api.ErrHang, 1, "f"))
	d.members("a name for it")
}

// P22.1, 7: too few names and too many, of files and directories; names in directories that aren't reached count too.
func TestP22_1Counts(t *testing.T) {
	d := formatted(t, small)
	d.dir(1, 9, to("a", 2), to("b", 3), to("c", 3), to("d", 4), to("e", 5))
	d.file(2, 2)
	d.file(3, 1)
	d.dir(4, 0)
	d.dir(5, 0)
	d.dir(6, 10, to("a", 2), to("d", 4))
	d.file(7, 1)
	d.breaches("some of each", breach(api.ErrCount, 3), breach(api.ErrCount, 4), breach(api.ErrCount, 6), breach(api.ErrCount, 7), breach(api.ErrLost, 6), breach(api.ErrLost, 7))
	d.losses("some of each", loss(api.ErrLost, 6), unnamed(api.ErrCount, 6, "d"), loss(api.ErrLost, 7))
	d.members("some of each", aFile("a", 0), aFile("b", 0), aLink("c", "b"), aDir("d"), aDir("e"), aDir("lost"), aDir("lost/6"), aLink("lost/6/a", "a"), aFile("lost/7", 0))
}

// P22.1, 8: a directory that names itself, and a way round that the root isn't on.
func TestP22_1Lost(t *testing.T) {
	d := formatted(t, small)
	d.dir(1, 9, to("f", 7))
	d.file(7, 2)
	d.dir(2, 10, to("me", 2))
	d.dir(3, 11, to("on", 4))
	d.dir(4, 12, to("on", 5), to("f", 7))
	d.dir(5, 13, to("back", 3))
	d.breaches("two ways round", breach(api.ErrLost, 2), breach(api.ErrLost, 3), breach(api.ErrLost, 4), breach(api.ErrLost, 5))
	d.losses("two ways round", loss(api.ErrLost, 2), unnamed(api.ErrCount, 2, "me"), loss(api.ErrLost, 3), unnamed(api.ErrCount, 5, "back"))
	d.members("two ways round", aFile("f", 0), aDir("lost"), aDir("lost/2"), aDir("lost/3"), aDir("lost/3/on"), aLink("lost/3/on/f", "f"), aDir("lost/3/on/on"))
}
