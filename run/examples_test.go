package run_test

import (
	"bytes"
	"testing"

	"furrow/run"
)

var (
	made    = []string{`mkfs 24 8 1 -> ok`}
	mounted = []string{`mkfs 24 8 1 -> ok`, `mount 1 -> ok E130`}
	oneFile = []string{`mkfs 24 8 1 -> ok`, `mount 1 -> ok E130`, `create "/a" -> ok`}
)

func behind(first []string, then ...string) []string {
	return append(append([]string{}, first...), then...)
}

// Examples 1 to 4 of the chapter are one script.
func TestExamples1To4(t *testing.T) {
	plays(t, behind(mounted,
		`info -> ok 24 19 8 7`,
		`create "/a" -> ok`,
		`info -> ok 24 18 8 6`,
		`stat "/a" -> ok 2 file 0 1 0`,
		`list "/" -> ok "a" 2`,
		`write "/a" 3 "xyz" -> ok`,
		`stat "/a" -> ok 2 file 6 1 1`,
		`read "/a" 3 10 -> ok "xyz"`,
		`state -> ok`,
		`  shape 24 8 1`,
		`  inode 1 dir 1 size 0 head 5 tail 2688 entries 1 log 5 names "a" 2`,
		`  inode 2 file 1 size 6 head 7 tail 3712 entries 1 log 7 map 0:6+1`,
		`  free 8+16`,
		`write "/a" 0 "q" -> ok`,
		`scan 64 5 5 -1 -> ok`,
		`  shape 24 8 1`,
		`  inode 1 dir 1 size 0 head 5 tail 2688 entries 1 log 5 names "a" 2`,
		`  inode 2 file 1 size 6 head 7 tail 3776 entries 2 log 7 map 0:8+1`,
		`  free 6+1 9+15`,
		`unmount -> ok`,
		`unmount -> E201`,
		`mount 2 1 0 1 -> ok E0`,
		`mount 2 -> E202`,
		`crash -> ok`,
		`mount 2 -> ok E130`,
		`read "/a" 0 1 -> ok "q"`,
	)...)
}

func TestExample5Refusals(t *testing.T) {
	plays(t,
		`mount 1 -> E200`,
		`mkfs 23 8 1 -> E30`,
		`mkfs 24 12 1 -> E30`,
		`frob -> E190`,
		`info -> E201`,
		`mkfs 24 8 1 -> ok`,
		`mount 0 -> E120`,
		`mount 65 -> E120`,
		`poke 12288 0 -> E11`,
		`poke 0 256 -> E14`,
		`mount 64 -> ok E130`,
		`mkfs 24 8 1 -> E202`,
	)
}

func TestExample6Paths(t *testing.T) {
	plays(t, behind(mounted,
		`mkdir "/d/" -> ok`,
		`create "/d/f" -> ok`,
		`create "d" -> E141`,
		`create "/x/y" -> E143`,
		`create "/d/f/z" -> E144`,
		`create "/d" -> E170`,
		`create "/.." -> E145`,
		`rmdir "/d" -> E171`,
		`unlink "/d" -> E160`,
		`stat "/d/../d/f" -> ok 3 file 0 1 0`,
		`rename "/d" "/d/e" -> E173`,
		`link "/d/f" "/g" -> ok`,
		`stat "/g" -> ok 3 file 0 2 0`,
		`walk -> ok`,
		`  "/" 1 dir 2 1 0`,
		`  "/d" 2 dir 1 1 0`,
		`  "/d/f" 3 file 0 2 0 0`,
		`  "/g" 3 file 0 2 0 0`,
	)...)
}

func TestExample7Dead(t *testing.T) {
	plays(t, behind(oneFile,
		`arm 0 -> ok`,
		`create "/b" -> E13`,
		`stat "/a" -> E150`,
		`arm 3 -> E13`,
		`crash -> ok`,
		`mount 1 -> ok E130`,
		`list "/" -> ok "a" 2`,
	)...)
}

func TestExample8Superblock(t *testing.T) {
	plays(t, behind(made,
		`poke 0 0 -> ok`,
		`mount 1 -> ok E130`,
		`crash -> ok`,
		`poke 64 0 -> ok`,
		`mount 1 -> E110 E31 0`,
		`state -> E110 E31 0`,
	)...)
}

func TestExample9Slot(t *testing.T) {
	plays(t, behind(made,
		`poke 2304 1 -> ok`,
		`scan 3 -> E110 E32 5`,
		`poke 2304 0 -> ok`,
		`scan 3 -> ok`,
		`  shape 24 8 1`,
		`  inode 1 dir 1 size 0 head 0 tail 0 entries 0`,
		`  free 5+19`,
	)...)
}

func TestExample10Sizes(t *testing.T) {
	plays(t, behind(oneFile,
		`write "/a" 262144 "x" -> E162`,
		`write "/a" 262143 "x" -> ok`,
		`stat "/a" -> ok 2 file 262144 1 1`,
		`read "/a" 262142 9 -> ok "\x00x"`,
		`truncate "/a" 262145 -> E162`,
		`truncate "/a" 5 -> ok`,
		`stat "/a" -> ok 2 file 5 1 0`,
		`write "/a" -1 "x" -> E161`,
		`read "/a" 0 4097 -> E163`,
	)...)
}

// The whole's first example, as DOC.md has it.
func TestWholeExample(t *testing.T) {
	plays(t, behind(mounted,
		`create "/a" -> ok`,
		`write "/a" 3 "xyz" -> ok`,
		`stat "/a" -> ok 2 file 6 1 1`,
		`unmount -> ok`,
		`scan 1 -> ok`,
		`  shape 24 8 1`,
		`  inode 1 dir 1 size 0 head 5 tail 2688 entries 1 log 5 names "a" 2`,
		`  inode 2 file 1 size 6 head 7 tail 3712 entries 1 log 7 map 0:6+1`,
		`  free 8+16`,
		`mount 64 5 5 -1 -> ok E0`,
		`read "/a" 3 10 -> ok "xyz"`,
	)...)
}

// The bytes of the first examples: what they tell stands where they tell it.
func TestExamplesBytes(t *testing.T) {
	b := image(t, "mkfs 24 8 1\nmount 1\ncreate \"/a\"\nwrite \"/a\" 3 \"xyz\"")
	if len(b) != 24*512 || !bytes.Equal(b[6*512:6*512+8], []byte("\x00\x00\x00xyz\x00\x00")) {
		t.Errorf("P20.7: page 6 holds %q", b[6*512:6*512+8])
	}
	if texts, b := run.Play(nil); len(texts) != 0 || b != nil {
		t.Errorf("P20.7: Play(nil) = %q, %d bytes", texts, len(b))
	}
}
