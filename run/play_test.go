package run_test

import (
	"math"
	"slices"
	"strings"
	"testing"

	"furrow/api"
	"furrow/run"
)

// full: a step of a kind, every field of which says something.
func full(kind int) api.Step {
	return api.Step{Kind: kind, A: "/junk", B: "/more", N: 3, M: 4, K: 5, List: []int{1, 2}}
}

func TestP20_1Kinds(t *testing.T) {
	for _, kind := range []int{0, -1, 22, 23, 99, 255, 256, 257, 1 << 32, 1<<32 + 1, math.MaxInt, math.MinInt} {
		for _, ahead := range []string{"", "mkfs 24 8 1\n", "mkfs 24 8 1\nmount 1\n", "mkfs 24 8 1\narm 0\n"} {
			list := append(steps(t, ahead), full(kind))
			if got := holds(t, list); got[len(got)-1] != "E190" {
				t.Errorf("P20.1: kind %d behind %q tells %q", kind, ahead, got[len(got)-1])
			}
		}
	}
	for kind := 1; kind <= 21; kind++ {
		if got, _ := run.Play([]api.Step{full(kind)}); got[0] == "E190" {
			t.Errorf("P20.1: kind %d tells E190", kind)
		}
	}
}

// The first 2000 steps are played, by their number alone; what stands behind does nothing.
func TestP20_1MaxSteps(t *testing.T) {
	mkfs := api.Step{Kind: api.StepMkfs, N: 24, M: 8, K: 1}
	for _, many := range []int{1998, 1999, 2000, 2001, 4500} {
		list := slices.Repeat([]api.Step{{Kind: api.StepInfo}}, many)
		list = append(list, mkfs, api.Step{Kind: 99}, api.Step{Kind: api.StepState}, api.Step{})
		got, left := run.Play(list)
		if len(got) != many+4 {
			t.Fatalf("P20.1: %d steps tell %d texts", many+4, len(got))
		}
		for i, text := range got {
			want := "E203"
			if i < 2000 {
				want = "E201"
				switch i - many {
				case 0:
					want = "ok"
				case 1:
					want = "E190"
				}
			}
			if text != want {
				t.Fatalf("P20.1: step %d of %d tells %q; want %q", i, many+4, text, want)
			}
		}
		if (left != nil) != (many < 2000) {
			t.Errorf("P20.1: behind %d steps a mkfs leaves %d bytes", many, len(left))
		}
	}
}

// Fields that a kind doesn't have aren't looked at.
func TestP20_1OtherFields(t *testing.T) {
	for _, ahead := range []string{"", "mkfs 24 8 1\n", "mkfs 24 8 1\nmount 1\ncreate \"/a\"\nwrite \"/a\" 0 \"abc\"\nmkdir \"/d\"\ncreate \"/f\"\n"} {
		for _, line := range []string{
			"mkfs 24 8 1", "mount 3 1", "unmount", "create \"/b\"", "mkdir \"/e\"", "unlink \"/a\"", "rmdir \"/d\"", "rename \"/a\" \"/b\"", "link \"/a\" \"/b\"", "read \"/a\" 1 2", "write \"/a\" 1 \"z\"",
			"truncate \"/a\" 1", "stat \"/a\"", "list \"/\"", "walk", "info", "arm 3", "crash 1", "poke 3000 7", "state", "scan 2 1",
		} {
			list := steps(t, ahead+line+"\nstate\narm 0")
			junk := slices.Clone(list)
			for i := range junk {
				junk[i] = spoilt(junk[i])
			}
			holds(t, junk)
			got, left := run.Play(list)
			other, rest := run.Play(junk)
			if !slices.Equal(got, other) || string(left) != string(rest) {
				t.Errorf("P20.1: %q and %q behind it tells %q, with fields that it hasn't %q", ahead, line, got, other)
			}
		}
	}
}

// spoilt: a step with something in each field that its kind doesn't have.
func spoilt(s api.Step) api.Step {
	has := map[int]string{
		1: "NMK", 2: "NL", 4: "A", 5: "A", 6: "A", 7: "A", 8: "AB", 9: "AB", 10: "ANM", 11: "ANB", 12: "AN", 13: "A", 14: "A", 17: "N", 18: "L", 19: "NM", 21: "NL",
	}[s.Kind]
	j := full(s.Kind)
	for _, f := range has {
		switch f {
		case 'A':
			j.A = s.A
		case 'B':
			j.B = s.B
		case 'N':
			j.N = s.N
		case 'M':
			j.M = s.M
		case 'K':
			j.K = s.K
		case 'L':
			j.List = s.List
		}
	}
	return j
}

func TestP20_2Mkfs(t *testing.T) {
	plays(t, `mkfs 0 0 0 -> E30`, `mkfs 24 8 0 -> E30`, `mkfs 24 8 9 -> E30`, `mkfs 1025 8 1 -> E30`, `mkfs -24 8 1 -> E30`, `mkfs 9223372036854775807 8 1 -> E30`, `mkfs 36028797018963992 8 1 -> E30`, `state -> E200`,
		`mkfs 1024 256 8 -> ok`, `mount 1 -> ok E130`, `info -> ok 1024 988 256 255`, `mkfs 23 8 1 -> E202`, `mkfs 24 8 1 -> E202`, `unmount -> ok`, `mkfs 23 8 1 -> E30`, `mount 1 -> ok E0`, `info -> ok 1024 988 256 255`)
	// The data area of a device that is formatted anew is left as it was; that of a new device is all zeros.
	b := image(t, "mkfs 24 8 1\npoke 12287 7\nmkfs 24 8 2")
	if len(b) != 24*512 || b[12287] != 7 {
		t.Errorf("P20.2: a device of the same size is another one")
	}
	b = image(t, "mkfs 24 8 1\npoke 12287 7\nmkfs 25 8 2")
	if len(b) != 25*512 || b[12287] != 0 {
		t.Errorf("P20.2: a device of another size isn't a new one")
	}
	if b = image(t, "mkfs 24 8 1\npoke 12287 7\nmkfs 23 8 1"); len(b) != 24*512 || b[12287] != 7 {
		t.Errorf("P20.2: a mkfs that is refused changed the device")
	}
	plays(t, behind(made, `arm 16 -> ok`, `mkfs 24 8 2 -> E13`, `mkfs 24 8 1 -> E13`, `mount 1 -> E110 E31 0`, `mkfs 23 8 1 -> E30`, `mkfs 25 8 1 -> ok`, `mount 1 -> ok E130`, `info -> ok 25 20 8 7`)...)
	plays(t, behind(made, `arm 5 -> ok`, `mkfs 24 8 1 -> E13`, `crash -> ok`, `mount 1 -> ok E130`, `crash -> ok`, `mkfs 24 16 1 -> ok`, `mount 1 -> ok E130`, `info -> ok 24 18 16 15`)...)
	plays(t, behind(made, `arm 9 -> ok`, `mkfs 25 8 1 -> ok`, `mkfs 25 8 1 -> ok`)...) // the new one isn't armed
}

func TestP20_2Arm(t *testing.T) {
	plays(t, `arm 1 -> E200`, `arm -1 -> E200`, `mkfs 24 8 1 -> ok`, `arm -1 -> E14`, `arm -9223372036854775808 -> E14`, `arm 9223372036854775807 -> ok`, `arm 2 -> ok`, `arm 0 -> ok`, `arm -1 -> E14`, `arm 0 -> E13`, `arm 1 -> E13`)
	plays(t, behind(oneFile, `arm -1 -> E14`, `create "/b" -> ok`, `arm 1000 -> ok`, `create "/c" -> ok`, `arm 0 -> ok`, `create "/d" -> E13`)...)
}

func TestP20_2Crash(t *testing.T) {
	plays(t, `crash -> E200`, `crash 1 2 3 -> E200`)
	plays(t, behind(oneFile, `crash -> ok`, `stat "/a" -> E201`, `unmount -> E201`, `crash 5 -> ok`, `mount 1 -> ok E130`, `stat "/a" -> ok 2 file 0 1 0`)...)
	plays(t, behind(oneFile, `arm 0 -> ok`, `crash -> ok`, `arm 7 -> ok`, `mount 1 -> ok E130`)...) // the new one is alive and not armed
	plays(t, behind(oneFile, `arm 7 -> ok`, `crash -> ok`, `mount 1 -> ok E130`, `create "/b" -> ok`)...)
	// Which of the values of a word in doubt are left hangs on the choices. The first store of mkfs takes the superblock's first word away.
	first := image(t, "mkfs 24 8 1")[:8]
	for _, c := range []struct {
		choices string
		old     bool
	}{{"", true}, {" 0", true}, {" 1", false}, {" 2", true}, {" -1", false}, {" 0 1", true}, {" 1 0", false}, {" 9223372036854775807", false}, {" -9223372036854775808", true}} {
		b := image(t, "mkfs 24 8 1\narm 1\nmkfs 24 8 1\ncrash"+c.choices)
		if old := slices.Equal(b[:8], first); old != c.old || !old && !slices.Equal(b[:8], make([]byte, 8)) {
			t.Errorf("P20.2: crash%s leaves %v of a word in doubt", c.choices, b[:8])
		}
	}
}

func TestP20_2Poke(t *testing.T) {
	plays(t, `poke -1 -1 -> E200`, `mkfs 24 8 1 -> ok`, `poke -1 -1 -> E11`, `poke -1 0 -> E11`, `poke 12288 256 -> E11`, `poke 9223372036854775807 0 -> E11`, `poke -9223372036854775808 0 -> E11`, `poke 0 -1 -> E14`, `poke 12287 256 -> E14`, `poke 5000 9223372036854775807 -> E14`,
		`poke 12287 0 -> ok`, `poke 12287 255 -> ok`, `arm 0 -> ok`, `poke 0 0 -> E13`, `poke -1 -1 -> E13`, `crash -> ok`, `mount 1 -> ok E130`, `arm 0 -> ok`, `poke -1 0 -> E202`, `create "/a" -> E13`, `poke 0 0 -> E202`, `crash -> ok`, `poke 12287 1 -> ok`)
	b := image(t, "mkfs 24 8 1\npoke 12287 255\npoke 12286 1\npoke 4096 128")
	if b[12287] != 255 || b[12286] != 1 || b[12285] != 0 || b[4096] != 128 || b[4097] != 0 {
		t.Errorf("P20.2: poked bytes are %v, %v", b[12285:], b[4096:4098])
	}
	// A poked device isn't armed, and nothing on it is in doubt.
	plays(t, behind(made, `arm 5 -> ok`, `poke 12287 1 -> ok`, `mount 1 -> ok E130`, `create "/a" -> ok`)...)
	if got := told(t, "mkfs 24 8 1\narm 1\npoke 12287 1\nmkfs 24 8 1"); got != "ok" {
		t.Errorf("P20.2: the poked device is armed: mkfs tells %q", got)
	}
}

func TestP20_2StateScan(t *testing.T) {
	plays(t, `state -> E200`, `scan 0 -> E200`, `scan 1 5 -> E200`)
	fresh := []string{`  shape 24 8 1`, `  inode 1 dir 1 size 0 head 0 tail 0 entries 0`, `  free 5+19`}
	var lines []string
	for _, l := range []string{`state -> ok`, `scan 1 -> ok`, `scan 64 -> ok`, `scan 2 -1 9223372036854775807 -9223372036854775808 -> ok`} {
		lines = append(append(lines, l), fresh...)
	}
	lines = append(lines, `scan 0 -> E120`, `scan 65 -> E120`, `scan -1 -> E120`, `scan 9223372036854775807 -> E120`)
	plays(t, behind(made, lines...)...)
	plays(t, behind(mounted, lines...)...)
	plays(t, behind(made, behind([]string{`arm 0 -> ok`}, lines...)...)...)
	// A breach is told with its reason and its place; the workers' number is asked first.
	plays(t, behind(made, `poke 512 1 -> ok`, `state -> E110 E35 512`, `scan 7 -> E110 E35 512`, `scan 0 -> E120`, `mount 7 -> E110 E35 512`, `mount 0 -> E120`)...)
	plays(t, behind(made, `poke 2048 0 -> ok`, `state -> E110 E32 1`, `poke 0 0 -> ok`, `state -> E110 E32 1`, `poke 64 0 -> ok`, `state -> E110 E31 0`)...)
}

// What a device that went dead holds now is told, also what is in doubt: a name that was stored, but isn't durable, is there, and a loss of power takes it.
func TestP20_2StateOfDoubts(t *testing.T) {
	doubtful := 0
	for _, op := range []string{"create \"/b\"", "write \"/a\" 0 \"x\"", "rename \"/a\" \"/b\"", "unlink \"/a\""} {
		for left := 0; ; left++ {
			list := steps(t, "mkfs 24 8 1\nmount 1\ncreate \"/a\"\narm "+itoa(left)+"\n"+op+"\nstate\nscan 3\ncrash\nstate")
			got := holds(t, list)
			if got[5] != got[6] {
				t.Fatalf("P20.2: state tells %q, scan %q", got[5], got[6])
			}
			if got[4] == "ok" {
				break
			}
			if got[5] != got[8] {
				doubtful++
			}
		}
	}
	if doubtful < 4 {
		t.Errorf("only %d states hung on what was in doubt", doubtful)
	}
}

func TestP20_3Mount(t *testing.T) {
	plays(t, `mount 0 -> E200`, `mkfs 24 8 1 -> ok`, `mount -1 -> E120`, `mount 0 1 -> E120`, `mount 65 -> E120`, `info -> E201`, `mount 64 63 -64 9 -> ok E130`, `mount 0 -> E202`, `mount 1 -> E202`, `info -> ok 24 19 8 7`)
	// Why: the record of a clean unmount counts; where it is spoilt its error is told.
	clean := behind(mounted, `unmount -> ok`)
	plays(t, behind(clean, `mount 1 -> ok E0`, `unmount -> ok`, `mount 3 -> ok E0`, `crash -> ok`, `mount 1 -> ok E130`)...)
	plays(t, behind(clean, `poke 128 77 -> ok`, `mount 1 -> ok E130`)...)
	plays(t, behind(clean, `poke 1024 77 -> ok`, `mount 1 -> ok E36`, `unmount -> ok`, `mount 1 -> ok E0`)...)
	// A mount on a device that goes dead is none.
	plays(t, behind(clean, `arm 0 -> ok`, `mount 1 -> E13`, `info -> E201`, `mount 1 -> E13`, `crash -> ok`, `mount 1 -> ok E0`)...)
	plays(t, behind(made, `arm 0 -> ok`, `mount 1 -> ok E130`, `info -> ok 24 19 8 7`)...) // it does no step
}

// An older record, and one of other pages, by the bytes of two clean unmounts.
func TestP20_3WhyStale(t *testing.T) {
	clean := "mkfs 24 8 1\nmount 1\nunmount\n"
	again := clean + "mount 1\ncreate \"/a\"\nunmount\n"
	b := image(t, clean)
	old := again
	for at := 1024; at < 1024+64; at++ {
		old += "poke " + itoa(at) + " " + itoa(int(b[at])) + "\n"
	}
	if got := told(t, old+"mount 1"); got != "ok E131" {
		t.Errorf("P20.3: a mount with an older record tells %q", got)
	}
	for at := 128; at < 136; at++ {
		old += "poke " + itoa(at) + " " + itoa(int(b[at])) + "\n"
	}
	if got := told(t, old+"mount 1"); got != "ok E132" {
		t.Errorf("P20.3: a mount with a record of other pages tells %q", got)
	}
	if got := told(t, again+"mount 1"); got != "ok E0" {
		t.Errorf("P20.3: a mount with its record tells %q", got)
	}
}

func TestP20_3Unmount(t *testing.T) {
	plays(t, `unmount -> E201`, `mkfs 24 8 1 -> ok`, `unmount -> E201`, `mount 1 -> ok E130`, `unmount -> ok`, `unmount -> E201`, `info -> E201`, `mount 1 -> ok E0`)
	// A volume that can't be unmounted stays.
	plays(t, behind(mounted, `arm 2 -> ok`, `unmount -> E13`, `unmount -> E150`, `mount 1 -> E202`, `mkfs 24 8 1 -> E202`, `mkfs 30 8 1 -> E202`, `poke 0 0 -> E202`, `info -> E150`, `walk -> E150`, `create "q" -> E150`,
		`state -> ok`, `  shape 24 8 1`, `  inode 1 dir 1 size 0 head 0 tail 0 entries 0`, `  free 5+19`, `crash -> ok`, `unmount -> E201`, `mount 1 -> ok E130`, `unmount -> ok`, `mkfs 30 8 1 -> ok`)...)
}

// All operations without a volume, and with one that is closed.
func TestP20_4NoVolume(t *testing.T) {
	for _, ahead := range []string{"", "mkfs 24 8 1\n", "mkfs 24 8 1\nmount 1\nunmount\n", "mkfs 24 8 1\nmount 1\ncrash\n", "mkfs 24 8 1\narm 0\n"} {
		for kind := api.StepCreate; kind <= api.StepInfo; kind++ {
			list := append(steps(t, ahead), api.Step{Kind: kind, A: "", N: -1, M: -1})
			if got := holds(t, list); got[len(got)-1] != "E201" {
				t.Errorf("P20.4: kind %d behind %q tells %q", kind, ahead, got[len(got)-1])
			}
		}
	}
	for kind := api.StepCreate; kind <= api.StepInfo; kind++ {
		list := append(steps(t, "mkfs 24 8 1\nmount 1\narm 0\ncreate \"/a\"\n"), api.Step{Kind: kind, A: "", N: -1, M: -1})
		if got := holds(t, list); got[len(got)-1] != "E150" {
			t.Errorf("P20.4: kind %d on a closed volume tells %q", kind, got[len(got)-1])
		}
	}
}

func TestP20_4Told(t *testing.T) {
	plays(t, behind(mounted,
		`list "/" -> ok`,
		`walk -> ok`,
		`  "/" 1 dir 0 1 0`,
		`create "/\xff \"\\" -> ok`,
		`create "/A" -> ok`,
		`list "/" -> ok "A" 3 "\xff \"\\" 2`,
		`read "/A" 0 10 -> ok ""`,
		`read "/A" 99 0 -> ok ""`,
		`write "/A" 0 "\x00\n\"\\\x7f~ " -> ok`,
		`read "/A" 0 4096 -> ok "\x00\n\"\\\x7f~ "`,
		`write "/A" 0 "123456789" -> ok`,
		`mkdir "/d" -> ok`,
		`link "/A" "/d/z" -> ok`,
		`walk -> ok`,
		`  "/" 1 dir 3 1 0`,
		`  "/A" 3 file 9 2 1 3421780262`,
		`  "/d" 4 dir 1 1 0`,
		`  "/d/z" 3 file 9 2 1 3421780262`,
		`  "/\xff \"\\" 2 file 0 1 0 0`,
		`stat "/" -> ok 1 dir 3 1 0`,
		`stat "/d/" -> ok 4 dir 1 1 0`,
		`stat "/d/z" -> ok 3 file 9 2 1`,
		`list "/d" -> ok "z" 3`,
		`list "/A" -> E144`,
		`rename "/d/z" "/\xff \"\\" -> ok`,
		`unlink "/A" -> ok`,
		`truncate "/\xff \"\\" 2 -> ok`,
		`rmdir "/d" -> ok`,
		`walk -> ok`,
		`  "/" 1 dir 1 1 0`,
		`  "/\xff \"\\" 3 file 2 1 1 1330857165`,
		`info -> ok 24 16 8 6`,
		`state -> ok`,
		`  shape 24 8 1`,
		`  inode 1 dir 1 size 0 head 5 tail 3072 entries 7 log 5 names "\xff \"\\" 3`,
		`  inode 3 file 1 size 2 head 7 tail 3840 entries 3 log 7 map 0:9+1`,
		`  free 6+1 8+1 10+14`,
	)...)
}

// Every error of every layer is told by its word, with the first that applies.
func TestP20_4Refused(t *testing.T) {
	long := strings.Repeat("x", 201)
	plays(t, behind(oneFile,
		`create "`+long+`" -> E140`, `create "a" -> E141`, `create "/a\x00" -> E141`, `create "/`+long[:29]+`" -> E142`, `create "/n/x" -> E143`, `create "/a/x" -> E144`, `create "/" -> E145`, `mkdir "/a" -> E170`, `unlink "/q" -> E143`, `rmdir "/a" -> E144`,
		`read "/a" -1 0 -> E161`, `read "/a" 0 -1 -> E163`, `read "/" 0 1 -> E160`, `read "/q" -1 -1 -> E143`, `write "/" 0 "x" -> E160`, `truncate "/a" -1 -> E161`, `truncate "/" 1 -> E160`, `link "/" "/z" -> E160`, `link "/q" "z" -> E141`, `rename "/q" "/a" -> E143`, `list "/a" -> E144`, `stat "" -> E141`,
		`create "/b" -> ok`, `create "/c" -> ok`, `create "/d" -> ok`, `create "/e" -> ok`, `create "/f" -> ok`, `create "/g" -> ok`, `create "/h" -> E153`, `mkdir "/h" -> E153`, `info -> ok 24 18 8 0`,
	)...)
	var lines []string
	for i := range 17 { // with a page for each log they are all that there are
		lines = append(lines, `write "/a" `+itoa(512*i)+` "x" -> ok`)
	}
	plays(t, behind(oneFile, append(lines, `info -> ok 24 0 8 6`, `write "/a" 9000 "x" -> E152`, `write "/a" 0 "y" -> E152`)...)...)
	lines = []string{}
	for i := 1; i < 100; i++ {
		lines = append(lines, `link "/a" "/`+itoa(i)+`" -> ok`)
	}
	got := run.Run("mkfs 99 8 1\nmount 1\ncreate \"/a\"\n" + cut(lines) + "link \"/a\" \"/x\"\nstat \"/a\"")
	if !strings.HasSuffix(got, "ok\nE172\nok 2 file 0 100 0\n") {
		t.Errorf("P20.4: a hundred links tell %q", got)
	}
}
