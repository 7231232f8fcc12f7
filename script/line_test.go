package script_test

import (
	"math"
	"strconv"
	"strings"
	"testing"

	"furrow/api"
	"furrow/script"
)

// sample: for each argument of a kind a word that is right there.
func sample(k shape) []string {
	words := []string{k.word}
	for i, arg := range k.args {
		switch arg {
		case 'A', 'B':
			words = append(words, `"t`+strconv.Itoa(i)+`"`)
		default:
			words = append(words, strconv.Itoa(7+i))
		}
	}
	return words
}

// Each kind with its fields, each with a value of its own.
func TestP19_3Kinds(t *testing.T) {
	for _, c := range []told{
		{"mkfs 7 8 9", api.Step{Kind: api.StepMkfs, N: 7, M: 8, K: 9}, api.OK},
		{"mount 7 8", api.Step{Kind: api.StepMount, N: 7, List: []int{8}}, api.OK},
		{"unmount", api.Step{Kind: api.StepUnmount}, api.OK},
		{`create "t0"`, api.Step{Kind: api.StepCreate, A: "t0"}, api.OK},
		{`mkdir "t0"`, api.Step{Kind: api.StepMkdir, A: "t0"}, api.OK},
		{`unlink "t0"`, api.Step{Kind: api.StepUnlink, A: "t0"}, api.OK},
		{`rmdir "t0"`, api.Step{Kind: api.StepRmdir, A: "t0"}, api.OK},
		{`rename "t0" "t1"`, api.Step{Kind: api.StepRename, A: "t0", B: "t1"}, api.OK},
		{`link "t0" "t1"`, api.Step{Kind: api.StepLink, A: "t0", B: "t1"}, api.OK},
		{`read "t0" 8 9`, api.Step{Kind: api.StepRead, A: "t0", N: 8, M: 9}, api.OK},
		{`write "t0" 8 "t2"`, api.Step{Kind: api.StepWrite, A: "t0", N: 8, B: "t2"}, api.OK},
		{`truncate "t0" 8`, api.Step{Kind: api.StepTruncate, A: "t0", N: 8}, api.OK},
		{`stat "t0"`, api.Step{Kind: api.StepStat, A: "t0"}, api.OK},
		{`list "t0"`, api.Step{Kind: api.StepList, A: "t0"}, api.OK},
		{"walk", api.Step{Kind: api.StepWalk}, api.OK},
		{"info", api.Step{Kind: api.StepInfo}, api.OK},
		{"arm 7", api.Step{Kind: api.StepArm, N: 7}, api.OK},
		{"crash 7", api.Step{Kind: api.StepCrash, List: []int{7}}, api.OK},
		{"poke 7 8", api.Step{Kind: api.StepPoke, N: 7, M: 8}, api.OK},
		{"state", api.Step{Kind: api.StepState}, api.OK},
		{"scan 7 8", api.Step{Kind: api.StepScan, N: 7, List: []int{8}}, api.OK},
	} {
		holdAll(t, []told{c})
		if s, _ := hold(t, c.line); script.Print(s) != c.line {
			t.Errorf("P19.5: Print(%+v) = %q, want %q", s, script.Print(s), c.line)
		}
	}
}

// Of each kind: fewer words and more, quoted texts and plain words in each other's stead, words that are no numbers, at each place and at two of them.
func TestP19_3Arguments(t *testing.T) {
	swaps := append([]string{`"1"`, `""`, `"x"`, "1", "x", `"`, `"x`, `x"`, `"x"x`, `"x""x"`, `"\q"`}, wrong...)
	for _, k := range table {
		words := sample(k)
		for n := range words {
			hold(t, strings.Join(words[:n+1], " "))
		}
		for _, more := range swaps {
			hold(t, strings.Join(words, " ")+" "+more)
			hold(t, strings.Join(words, " ")+" 3 "+more)
		}
		for at := range words {
			for _, w := range swaps {
				changed := append([]string{}, words...)
				changed[at] = w
				hold(t, strings.Join(changed, " "))
				for then := range words[:at] {
					for _, v := range []string{`"1"`, "1", "x", `"`, "01"} {
						twice := append([]string{}, changed...)
						twice[then] = v
						hold(t, strings.Join(twice, " "))
					}
				}
			}
		}
	}
}

// The first error that holds is told, though others hold too.
func TestP19_3First(t *testing.T) {
	long := strings.Repeat(" ", 20001)
	holdAll(t, []told{
		{long, api.Step{}, api.ErrStepLong}, {"frob \"" + long, api.Step{}, api.ErrStepLong}, {"walk" + long, api.Step{}, api.ErrStepLong}, {"mkfs x" + long, api.Step{}, api.ErrStepLong},
		{`frob "`, api.Step{}, api.ErrStepText}, {`mkfs 1 "`, api.Step{}, api.ErrStepText}, {`mkfs x x x"`, api.Step{}, api.ErrStepText}, {`"x"mkfs 1 2 3`, api.Step{}, api.ErrStepText}, {`mkfs x 2 3 4 5 6 "\q"`, api.Step{}, api.ErrStepText}, {`walk "`, api.Step{}, api.ErrStepText}, {`"`, api.Step{}, api.ErrStepText}, {`"walk" "\x"`, api.Step{}, api.ErrStepText},
		{"frob x", api.Step{}, api.ErrStepKind}, {`"walk"`, api.Step{}, api.ErrStepKind}, {`""`, api.Step{}, api.ErrStepKind}, {`"mkfs" x`, api.Step{}, api.ErrStepKind},
		{"mkfs x", api.Step{}, api.ErrStepArgs}, {"mkfs x x", api.Step{}, api.ErrStepArgs}, {"mkfs x x x x", api.Step{}, api.ErrStepArgs}, {`mkfs x "1" 1`, api.Step{}, api.ErrStepArgs}, {`mount x "1"`, api.Step{}, api.ErrStepArgs}, {`read "a" x "1"`, api.Step{}, api.ErrStepArgs}, {`write "a" x b`, api.Step{}, api.ErrStepArgs}, {`crash x 1 "1"`, api.Step{}, api.ErrStepArgs}, {`truncate a x`, api.Step{}, api.ErrStepArgs},
		{"mkfs x x x", api.Step{}, api.ErrStepNum}, {`write "a" x "b"`, api.Step{}, api.ErrStepNum}, {"mount 1 2 3 x", api.Step{}, api.ErrStepNum}, {"mount x 1 2", api.Step{}, api.ErrStepNum},
	})
}

// Words that are nearly a kind's.
func TestP19_3Words(t *testing.T) {
	for _, k := range table {
		rest := strings.TrimPrefix(strings.Join(sample(k), " "), k.word)
		for _, w := range []string{strings.ToUpper(k.word), strings.ToUpper(k.word[:1]) + k.word[1:], k.word[1:], k.word[:len(k.word)-1], k.word + "s", k.word + k.word, "\t" + k.word, k.word + "\t", k.word + "\r", k.word + "\n", "\n" + k.word, k.word + "\x00", "\ufeff" + k.word, "#" + k.word, "-" + k.word, strconv.Itoa(k.kind), k.word + "\u00a0"} {
			hold(t, w+rest)
			if w != "stat" {
				holdAll(t, []told{{w + rest, api.Step{}, api.ErrStepKind}})
			}
		}
	}
}

// Only the byte 32 parts words, and any number of it counts for nothing.
func TestP19_3Blanks(t *testing.T) {
	for _, k := range table {
		words := sample(k)
		want, _ := line(strings.Join(words, " "))
		for _, gap := range []string{" ", "  ", "     "} {
			for _, ahead := range []string{"", " ", "   "} {
				for _, behind := range []string{"", " ", "   "} {
					holdAll(t, []told{{ahead + strings.Join(words, gap) + behind, want, api.OK}})
				}
			}
		}
		if len(words) > 1 {
			for c := range 256 {
				hold(t, strings.Join(words, string([]byte{byte(c)})))
				hold(t, strings.Join(words, " "+string([]byte{byte(c)})+" "))
			}
		}
	}
}

// Every byte within, ahead of and behind each kind of word.
func TestP19_3Bytes(t *testing.T) {
	for c := range 256 {
		at := string([]byte{byte(c)})
		for _, s := range []string{at, at + "walk", "walk" + at, "wa" + at + "lk", "walk " + at, "arm " + at, "arm " + at + "1", "arm 1" + at, "arm 1" + at + "1", "crash 1 " + at, "stat " + at, "stat \"" + at, "stat \"" + at + "\"", "stat \"a\"" + at, "stat " + at + "\"a\"", "stat \"a" + at + "b\"", "stat \"a\" " + at, "arm \"" + at + "\""} {
			hold(t, s)
		}
	}
}

// Words that are numbers, and words that are none, wherever a number is wanted.
func TestP19_3Numbers(t *testing.T) {
	for _, n := range values {
		w := strconv.Itoa(n)
		holdAll(t, []told{
			{"arm " + w, api.Step{Kind: 17, N: n}, api.OK}, {"poke 1 " + w, api.Step{Kind: 19, N: 1, M: n}, api.OK}, {"mkfs 1 2 " + w, api.Step{Kind: 1, N: 1, M: 2, K: n}, api.OK}, {"crash 5 " + w + " 6", api.Step{Kind: 18, List: []int{5, n, 6}}, api.OK},
			{"arm +" + w, api.Step{}, api.ErrStepNum}, {"arm 0" + w, api.Step{}, api.ErrStepNum}, {"arm -0" + w, api.Step{}, api.ErrStepNum}, {"arm --" + w, api.Step{}, api.ErrStepNum}, {"arm " + w + "-", api.Step{}, api.ErrStepNum},
		})
	}
	for _, w := range wrong {
		if w != strings.TrimSpace(w) && strings.Contains(w, " ") {
			continue
		}
		for _, s := range []string{"arm " + w, "poke 1 " + w, "poke " + w + " 1", "mkfs 1 2 " + w, "crash " + w, "crash 1 2 " + w, "scan 1 " + w, `read "a" ` + w + " 1", `write "a" ` + w + ` "b"`, `truncate "a" ` + w} {
			holdAll(t, []told{{s, api.Step{}, api.ErrStepNum}})
		}
	}
}

// Numbers near the greatest and the least that there are, and near where they would wrap round.
func TestP19_3Greatest(t *testing.T) {
	for _, w := range []string{"922337203685477580", "1844674407370955161", "1844674407370955162", "3689348814741910323", "-922337203685477580", "-1844674407370955161", "92233720368547758070", "5534023222112865484"} {
		for _, digit := range "0123456789" {
			hold(t, "arm "+w+string(digit))
			hold(t, "mount 1 "+w+string(digit))
		}
	}
	holdAll(t, []told{{"arm 9223372036854775807", api.Step{Kind: 17, N: math.MaxInt}, api.OK}, {"arm 9223372036854775808", api.Step{}, api.ErrStepNum}, {"arm -9223372036854775808", api.Step{Kind: 17, N: math.MinInt}, api.OK}, {"arm -9223372036854775809", api.Step{}, api.ErrStepNum}, {"arm " + strings.Repeat("9", 19996), api.Step{}, api.ErrStepNum}, {"arm " + strings.Repeat("0", 19996), api.Step{}, api.ErrStepNum}})
}

// A line of MaxLine bytes is read, one of a byte more isn't, whatever fills it.
func TestP19_3Longest(t *testing.T) {
	text, digits := strings.Repeat("x", 19993), strings.Repeat("1 ", 9997)
	holdAll(t, []told{
		{`stat "` + text[:19993-1] + `"`, api.Step{Kind: 13, A: text[:19993-1]}, api.OK}, {`stat "` + text + `"`, api.Step{Kind: 13, A: text}, api.OK}, {`stat "` + text + `" `, api.Step{}, api.ErrStepLong}, {`stat "` + text + `y"`, api.Step{}, api.ErrStepLong},
		{strings.Repeat(" ", 19996) + "walk", api.Step{Kind: 15}, api.OK}, {strings.Repeat(" ", 19997) + "walk", api.Step{}, api.ErrStepLong}, {"walk" + strings.Repeat(" ", 19996), api.Step{Kind: 15}, api.OK}, {"walk" + strings.Repeat(" ", 19997), api.Step{}, api.ErrStepLong},
		{strings.Repeat(" ", 20000), api.Step{}, api.ErrStepKind}, {strings.Repeat("x", 20000), api.Step{}, api.ErrStepKind}, {strings.Repeat("x", 20001), api.Step{}, api.ErrStepLong}, {strings.Repeat(`"`, 20000), api.Step{}, api.ErrStepText}, {strings.Repeat(`"`, 20001), api.Step{}, api.ErrStepLong},
	})
	for _, s := range []string{"crash " + digits, "crash " + digits[:19993], "crash " + digits + " ", "crash 1" + digits} {
		hold(t, s)
	}
	if s, e := script.Line("crash " + digits); e != api.OK || len(s.List) != 9997 {
		t.Errorf("Line of a long list: %d numbers, %d", len(s.List), e)
	}
}

// Lines that are drawn of words right and wrong.
func TestP19_3Drawn(t *testing.T) {
	r := chance()
	words := append([]string{}, wrong...)
	for _, k := range table {
		words = append(words, k.word)
	}
	for _, s := range texts {
		words = append(words, script.Quote(s), script.Quote(s), s)
	}
	for _, n := range values {
		words = append(words, strconv.Itoa(n), strconv.Itoa(n))
	}
	gaps := []string{" ", " ", " ", " ", " ", " ", " ", " ", "  ", "", "\t"}
	found := map[api.Errno]int{}
	for range 80000 {
		s := pick(r, table).word
		if r.Intn(20) == 0 {
			s = pick(r, words)
		}
		for range r.Intn(5) {
			s += pick(r, gaps) + pick(r, words)
		}
		_, e := hold(t, s)
		found[e]++
	}
	for _, e := range []api.Errno{api.OK, api.ErrStepText, api.ErrStepKind, api.ErrStepArgs, api.ErrStepNum} {
		if found[e] < 100 {
			t.Errorf("only %d of the drawn lines answered %d", found[e], e)
		}
	}
}
