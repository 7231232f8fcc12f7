package run_test

import (
	"bytes"
	"math"
	"math/rand"
	"slices"
	"strings"
	"testing"

	"furrow/api"
	"furrow/run"
	"furrow/script"
)

// drawnPath: one of few paths, most of them of one or two names.
func drawnPath(r *rand.Rand) string {
	if r.Intn(25) == 0 {
		return pick(r, "", "/", "a", "/.", "/..", "/a/", "//", "/\x00", "/"+strings.Repeat("n", 29), strings.Repeat("/n", 101), "/\xff", "/日")
	}
	return pick(r, "", "", "", "/d", "/d", "/a") + pick(r, "/a", "/a", "/b", "/c", "/d", "/e")
}

func drawnInt(r *rand.Rand) int {
	if r.Intn(40) == 0 {
		return pick(r, -1, math.MaxInt, math.MinInt, 1<<32, api.MaxSize, api.MaxSize-1)
	}
	return pick(r, 0, 1, 511, 512, 513, r.Intn(1200))
}

func drawnList(r *rand.Rand) []int {
	var list []int
	for range pick(r, 0, 0, 1, 3, 30) {
		list = append(list, pick(r, 0, 1, 2, -1, r.Intn(70), math.MaxInt, math.MinInt))
	}
	return list
}

func drawnWorkers(r *rand.Rand) int {
	if r.Intn(20) == 0 {
		return pick(r, 0, 65, -1, math.MaxInt)
	}
	return 1 + r.Intn(64)
}

// drawnMkfs: few shapes, so that a device is often of the size that is wanted.
func drawnMkfs(r *rand.Rand) api.Step {
	if r.Intn(10) == 0 {
		return api.Step{Kind: api.StepMkfs, N: pick(r, 23, 24, 1025, -1, math.MaxInt), M: pick(r, 8, 7, 12, 264), K: pick(r, 1, 0, 9)}
	}
	return api.Step{Kind: api.StepMkfs, N: pick(r, 24, 24, 30), M: pick(r, 8, 16), K: 1 + r.Intn(3)}
}

func drawnOperation(r *rand.Rand) api.Step {
	s := api.Step{Kind: api.StepCreate + r.Intn(api.StepInfo-api.StepCreate+1)}
	if r.Intn(3) == 0 {
		s.Kind = pick(r, api.StepCreate, api.StepMkdir, api.StepWrite, api.StepWrite, api.StepWrite)
	}
	switch s.Kind {
	case api.StepWalk, api.StepInfo:
		return s
	case api.StepRename, api.StepLink:
		s.B = drawnPath(r)
	case api.StepRead:
		s.N, s.M = drawnInt(r), pick(r, drawnInt(r), 4096, 4097)
	case api.StepWrite:
		s.N, s.B = drawnInt(r), pick(r, "", "x", "\x00\xff\n\"", strings.Repeat("y", r.Intn(4000)))
		if r.Intn(40) == 0 {
			s.B = strings.Repeat("z", 4097)
		}
	case api.StepTruncate:
		s.N = drawnInt(r)
	}
	if s.A = drawnPath(r); s.Kind == api.StepMkdir && r.Intn(2) == 0 {
		s.A = "/d"
	}
	return s
}

// drawnPoke: a byte of a place that is looked at, or of any.
func drawnPoke(r *rand.Rand) api.Step {
	at := pick(r, r.Intn(24*512), r.Intn(128), 128+r.Intn(8), 512+r.Intn(64), 1024+r.Intn(64), 2048+r.Intn(192), 2560+r.Intn(512))
	if r.Intn(20) == 0 {
		at = pick(r, -1, 24*512, 30*512, math.MaxInt, math.MinInt)
	}
	return api.Step{Kind: api.StepPoke, N: at, M: pick(r, 0, 1, r.Intn(256), 255, 256, -1)}
}

// fateful: a step that isn't an operation.
func fateful(r *rand.Rand, alone bool) api.Step {
	switch n := r.Intn(14); {
	case n < 2:
		return api.Step{Kind: api.StepUnmount}
	case n < 4:
		return api.Step{Kind: api.StepMount, N: drawnWorkers(r), List: drawnList(r)}
	case n < 6:
		return api.Step{Kind: api.StepState}
	case n < 8:
		return api.Step{Kind: api.StepScan, N: drawnWorkers(r), List: drawnList(r)}
	case n < 9:
		return drawnMkfs(r)
	case n < 11:
		return api.Step{Kind: api.StepCrash, List: drawnList(r)}
	case alone:
		return drawnOperation(r)
	case n < 13:
		return drawnPoke(r)
	}
	return api.Step{Kind: api.StepArm, N: pick(r, 0, 1, r.Intn(60), r.Intn(60), 1000, -1)}
}

// drawn: steps that lead somewhere: where there is no volume one is mounted soon, where the device is dead the power is lost soon, where it is corrupt it is soon made anew. Without arm and poke, if alone holds.
func drawn(r *rand.Rand, many int, alone bool) []api.Step {
	var list []api.Step
	var x second
	last := ""
	for i := range many {
		var s api.Step
		switch {
		case r.Intn(12) == 0:
			s = fateful(r, alone)
		case x.d == nil, strings.HasPrefix(last, "E110") && r.Intn(3) == 0, r.Intn(200) == 0:
			s = drawnMkfs(r)
		case x.d.Dead() && r.Intn(3) == 0:
			s = api.Step{Kind: api.StepCrash, List: drawnList(r)}
		case x.f == nil && !alone && r.Intn(5) == 0:
			s = drawnPoke(r)
		case x.f == nil && r.Intn(3) > 0:
			s = api.Step{Kind: api.StepMount, N: drawnWorkers(r), List: drawnList(r)}
		case r.Intn(60) == 0:
			s = api.Step{Kind: pick(r, 0, 22, -1, math.MaxInt), A: "/a", N: 1}
		default:
			s = drawnOperation(r)
		}
		list = append(list, s)
		last = x.tells(i, s)
	}
	return list
}

// Drawn scripts tell what the chapter says, and leave the bytes that it says (P20.1 to P20.7).
func TestP20_1Drawn(t *testing.T) {
	r := chance()
	seen := map[string]int{}
	kinds := map[int]int{}
	for range 500 {
		list := drawn(r, 120, false)
		for i, text := range holds(t, list) {
			if strings.HasPrefix(text, "E") {
				seen[text[:min(len(text), 4)]]++
			} else {
				kinds[list[i].Kind]++
			}
		}
	}
	for _, e := range []string{"E11", "E13", "E14", "E30", "E110", "E120", "E140", "E141", "E142", "E143", "E144", "E145", "E150", "E152", "E153", "E160", "E161", "E162", "E163", "E170", "E171", "E173", "E190", "E200", "E201", "E202"} {
		if seen[e] < 3 {
			t.Errorf("%d steps told %s: %v", seen[e], e, seen)
		}
	}
	for kind := 1; kind <= 21; kind++ {
		if kinds[kind] < 100 {
			t.Errorf("%d steps of kind %d were carried out: %v", kinds[kind], kind, kinds)
		}
	}
}

// Long lists, to the last step that is played and beyond.
func TestP20_1DrawnLong(t *testing.T) {
	r := chance()
	for range 4 {
		list := drawn(r, 2100, false)
		for i, text := range holds(t, list) {
			if (text == "E203") != (i >= 2000) {
				t.Fatalf("P20.1: step %d tells %q", i, text)
			}
		}
	}
}

// A step that is refused changes nothing, unless the device refused it.
func TestP20_1RefusedChangesNothing(t *testing.T) {
	r := chance()
	for range 150 {
		list := drawn(r, 100, false)
		texts, left := run.Play(list)
		gone := func(i int) bool { return strings.HasPrefix(texts[i], "E") && texts[i] != "E13" }
		fewer, rest := run.Play(without(list, gone))
		if !slices.Equal(fewer, without(texts, gone)) || !bytes.Equal(left, rest) {
			t.Fatalf("P20.1: without the refused steps %s\n%.2000q\nis told, and not\n%.2000q", shown(list), fewer, without(texts, gone))
		}
	}
}

// P20.8: without a step that reads all others tell the same: without all of them, without any one, and with more of them.
func TestP20_8Reads(t *testing.T) {
	r := chance()
	for round := range 100 {
		list := drawn(r, 100, false)
		texts, left := run.Play(list)
		reading := func(i int) bool { return reads(list[i]) }
		same := func(gone func(int) bool) {
			t.Helper()
			fewer, rest := run.Play(without(list, gone))
			if !slices.Equal(fewer, without(texts, gone)) || !bytes.Equal(left, rest) {
				t.Fatalf("P20.8: without steps that read %s\n%.2000q\nis told, and not\n%.2000q", shown(list), fewer, without(texts, gone))
			}
		}
		same(reading)
		some := r.Perm(len(list))
		same(func(i int) bool { return reading(i) && some[i]%2 == 0 })
		if round < 10 {
			for one := range list {
				same(func(i int) bool { return i == one && reading(i) })
			}
		}
		var more []api.Step
		var mine []bool
		for _, s := range list {
			for range r.Intn(3) {
				more = append(more, pick(r, api.Step{Kind: api.StepWalk}, api.Step{Kind: api.StepState}, api.Step{Kind: api.StepScan, N: drawnWorkers(r), List: drawnList(r)}, api.Step{Kind: api.StepInfo}, api.Step{Kind: api.StepList, A: "/"}, api.Step{Kind: api.StepRead, A: "/a", M: 99}, api.Step{Kind: api.StepStat, A: "/a"}))
				mine = append(mine, false)
			}
			more, mine = append(more, s), append(mine, true)
		}
		got, rest := run.Play(more)
		if !slices.Equal(without(got, func(i int) bool { return !mine[i] }), texts) || !bytes.Equal(left, rest) {
			t.Fatalf("P20.8: with more steps that read other texts are told: %s", shown(list))
		}
	}
}

// P20.8: without arm and poke crash changes no byte, whatever its choices; what walk tells is the same behind it.
func TestP20_8Crash(t *testing.T) {
	r := chance()
	walk := api.Step{Kind: api.StepWalk}
	walked := 0
	for round := range 60 {
		list := drawn(r, 60, true)
		for n := round % 3; n <= len(list); n += 3 {
			_, left := run.Play(list[:n])
			if left == nil {
				continue
			}
			crash := api.Step{Kind: api.StepCrash, List: drawnList(r)}
			ahead := append(slices.Clone(list[:n]), walk, crash)
			if _, rest := run.Play(ahead); !bytes.Equal(left, rest) {
				t.Fatalf("P20.8: %+v changed bytes behind %s", crash, shown(list[:n]))
			}
			texts, _ := run.Play(append(ahead, api.Step{Kind: api.StepMount, N: 1 + r.Intn(64), List: drawnList(r)}, walk))
			if texts[n] == "E201" {
				continue
			}
			if walked++; texts[n+2] != "ok E130" && texts[n+2] != "ok E0" || texts[n+3] != texts[n] {
				t.Fatalf("P20.8: behind crash and mount (%q) walk tells\n%q\nand ahead of it\n%q: %s", texts[n+2], texts[n+3], texts[n], shown(list[:n]))
			}
		}
	}
	if walked < 500 {
		t.Errorf("only %d walks were compared", walked)
	}
}

// T2: wherever in an operation the device goes dead, and whatever is left of what was in doubt: behind a mount walk tells what it told ahead of the operation, or what it would have told behind it.
func TestT2LossOfPower(t *testing.T) {
	r := chance()
	ahead := steps(t, "mkfs 24 8 2\nmount 1\nmkdir \"/d\"\ncreate \"/d/f\"\nwrite \"/d/f\" 300 \"some bytes\"\ncreate \"/a\"\nlink \"/a\" \"/d/l\"")
	n := len(ahead)
	walk := api.Step{Kind: api.StepWalk}
	for _, line := range []string{"create \"/n\"", "mkdir \"/d/n\"", "unlink \"/a\"", "unlink \"/d/f\"", "rename \"/d/f\" \"/a\"", "rename \"/d\" \"/e\"", "link \"/d/f\" \"/n\"", "write \"/d/f\" 305 \"others\"", "write \"/a\" 500 \"over two pages\"", "truncate \"/d/f\" 303", "truncate \"/d/f\" 0", "unmount"} {
		op := steps(t, line)[0]
		before, _ := run.Play(append(slices.Clone(ahead), walk))
		after, _ := run.Play(append(slices.Clone(ahead), op, walk))
		old, new := before[n], after[n+1]
		if line == "unmount" {
			new = old
		}
		for left := 0; ; left++ {
			cutOff := append(slices.Clone(ahead), api.Step{Kind: api.StepArm, N: left}, op)
			texts, _ := run.Play(cutOff)
			whole := texts[n+1] == "ok"
			for range 8 {
				crash := api.Step{Kind: api.StepCrash, List: drawnList(r)}
				texts, _ := run.Play(append(slices.Clone(cutOff), crash, api.Step{Kind: api.StepMount, N: 1 + r.Intn(64), List: drawnList(r)}, walk))
				if got := texts[n+4]; got != new && (whole || got != old) {
					t.Fatalf("T2: %s cut behind %d steps, %+v: mount tells %q, walk\n%q\nwant\n%q\nor\n%q", line, left, crash, texts[n+3], got, old, new)
				}
			}
			if whole {
				break
			}
			if texts[n+1] != "E13" {
				t.Fatalf("T2: %s cut behind %d steps tells %q", line, left, texts[n+1])
			}
		}
	}
}

// T4: any number of mounts, each cut by a loss of power, leave what one whole mount of the first image finds.
func TestT4AgainAndAgain(t *testing.T) {
	r := chance()
	ahead := "mkfs 24 8 1\nmount 1\nmkdir \"/d\"\ncreate \"/a\"\nwrite \"/a\" 0 \"bytes\"\n"
	cut := 0
	for left := range 60 {
		for _, op := range []string{"rename \"/a\" \"/d/b\"\n", "unlink \"/a\"\n", "unmount\n", "mkdir \"/d/e\"\n"} {
			list := append(steps(t, ahead+"arm "+itoa(left)+"\n"+op), api.Step{Kind: api.StepCrash, List: drawnList(r)})
			mount := api.Step{Kind: api.StepMount, N: 1 + r.Intn(64), List: drawnList(r)}
			walk := api.Step{Kind: api.StepWalk}
			once, _ := run.Play(append(slices.Clone(list), mount, walk))
			for range 3 {
				list = append(list, api.Step{Kind: api.StepArm, N: r.Intn(12)}, mount, api.Step{Kind: api.StepCrash, List: drawnList(r)})
			}
			again, _ := run.Play(append(list, mount, walk))
			if again[len(again)-1] != once[len(once)-1] || !strings.HasPrefix(once[len(once)-1], "ok\n") {
				t.Fatalf("T4: walk tells\n%q\nand behind one mount\n%q: %s", again[len(again)-1], once[len(once)-1], shown(list))
			}
			cut += strings.Count(strings.Join(again[len(once)-2:], " "), "E13 ")
		}
	}
	if cut < 20 {
		t.Errorf("only %d mounts were cut", cut)
	}
}

// T3: whatever the workers and their picks, scan tells what state tells, of sound devices and of broken ones.
func TestT3AnySchedule(t *testing.T) {
	r := chance()
	broken := 0
	for range 100 {
		list := append(drawn(r, 60, true), api.Step{Kind: api.StepCrash})
		for range r.Intn(12) {
			list = append(list, drawnPoke(r))
		}
		n := len(list)
		list = append(list, api.Step{Kind: api.StepState})
		for range 4 {
			list = append(list, api.Step{Kind: api.StepScan, N: 1 + r.Intn(64), List: drawnList(r)})
		}
		texts, _ := run.Play(list)
		last := texts[n:]
		if slices.ContainsFunc(last, func(s string) bool { return s != last[0] }) {
			t.Fatalf("T3: %q is told: %s", last, shown(list))
		}
		broken += strings.Count(last[0], "E110")
	}
	if broken < 10 || broken > 90 {
		t.Errorf("%d devices were broken", broken)
	}
}

// P20.6: texts with lines of all sorts: Run tells what the second player tells of the good ones, and the error of the others.
func TestP20_6Drawn(t *testing.T) {
	r := chance()
	for range 200 {
		var b strings.Builder
		for _, s := range drawn(r, 60, false) {
			b.WriteString(script.Print(s) + "\n")
			for range r.Intn(2) {
				b.WriteString(pick(r, "", "  ", "# no step", "frob", "walk 1", "arm", "arm 01", "create a", "create \"", "mkfs 24 8 \"1\"", strings.Repeat("x", 20001), "#"+strings.Repeat("x", 20001), "\t", "walk\r") + "\n")
			}
		}
		text := b.String()
		list, errs := script.Parse(text)
		want := ""
		var x second
		for i, s := range list {
			if errs[i] != api.OK {
				want += reasonOf(errs[i]) + "\n"
			} else {
				want += x.tells(i, s) + "\n"
			}
		}
		if got := run.Run(text); got != want {
			t.Fatalf("P20.6: Run(%.3000q)\n got %.3000q\nwant %.3000q", text, got, want)
		}
	}
}
