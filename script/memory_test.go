package script_test

import (
	"slices"
	"strings"
	"testing"
	"time"

	"furrow/api"
	"furrow/script"
)

// The lists that are handed in are left alone, their spare room too.
func TestP19_8ArgumentsLeft(t *testing.T) {
	all := []int{1, -2, 3, 77, 78}
	list := []api.Step{{Kind: 2, N: 1, List: all[:3]}, {Kind: 18, List: all[:3]}, {Kind: 15, List: all[:0]}, {Kind: 99, A: "spare"}}
	for _, s := range list[:3] {
		script.Print(s)
	}
	script.Text(list[:3])
	if !slices.Equal(all, []int{1, -2, 3, 77, 78}) {
		t.Errorf("P19.8: the numbers became %v", all)
	}
	if list[3].Kind != 99 || list[3].A != "spare" || list[0].Kind != 2 || len(list[0].List) != 3 {
		t.Errorf("P19.8: the steps became %+v", list)
	}
}

// Lists that are told are new memory, their spare room too, each its own.
func TestP19_8AnswersAreNew(t *testing.T) {
	text := "mount 1 2 3 4\ncrash 5 6 7\nmount 1 2 3 4\nscan 1 2 3 4 5 6"
	steps, errs := script.Parse(text)
	for i := range steps {
		l := steps[i].List[:cap(steps[i].List)]
		for j := range l {
			l[j] = -9 - i
		}
	}
	for i, s := range steps {
		for _, n := range s.List {
			if n != -9-i {
				t.Errorf("P19.8: two steps share a list: %+v", steps)
			}
		}
	}
	errs[0] = 7
	clear(errs[:cap(errs)])
	clear(steps[:cap(steps)])
	again, e := script.Parse(text)
	if len(again) != 4 || !same(again[0], api.Step{Kind: 2, N: 1, List: []int{2, 3, 4}}) || !same(again[3], api.Step{Kind: 21, N: 1, List: []int{2, 3, 4, 5, 6}}) || e[0] != api.OK {
		t.Errorf("P19.8: Parse keeps its answer: %+v, %v", again, e)
	}
	one, _ := script.Line("crash 1 2 3")
	other, _ := script.Line("crash 1 2 3")
	clear(one.List[:cap(one.List)])
	if !slices.Equal(other.List, []int{1, 2, 3}) {
		t.Errorf("P19.8: two answers share a list: %v", other.List)
	}
}

// Long texts of each kind take a time that grows with their length alone: what grew with its square would take minutes.
func TestP19_8Ends(t *testing.T) {
	const long = 1 << 19
	began := time.Now()
	for _, part := range []string{"\"", "\\", "\\\"", "\"\\", " ", "x", "\n", "#", "\n#", "walk\n", "\"\" ", "1 ", "\x00", "\x00\n", "9", "-", "\\x4", "\"\n", "\" \"", "crash 1\n"} {
		text := strings.Repeat(part, long/len(part))
		script.Line(text)
		script.Line("crash " + text)
		script.Line(text[:20000])
		script.Parse(text)
		script.Unquote(text)
		script.Unquote("\"" + text)
		if got, n, e := script.Unquote(script.Quote(text)); got != text || n != len(script.Quote(text)) || e != api.OK {
			t.Errorf("P19.2: a long text of %q comes back as %d bytes, %d, %d", part, len(got), n, e)
		}
		script.Print(api.Step{Kind: 11, A: text, B: text})
	}
	script.Print(api.Step{Kind: 18, List: make([]int, long)})
	script.Text(make([]api.Step, long))
	script.Text(slices.Repeat([]api.Step{{Kind: 15}}, long/16))
	if took := time.Since(began); took > time.Minute {
		t.Errorf("P19.8: long texts took %v", took)
	}
}

// No call panics, whatever bytes it is given.
func TestP19_8Drawn(t *testing.T) {
	r := chance()
	for range 40000 {
		b := make([]byte, r.Intn(24))
		for i := range b {
			b[i] = pick(r, []byte("\"\\ \nxn0a1-#walkcrsh\x00\x7f\xff"))
		}
		s := string(b)
		hold(t, s)
		holdParse(t, s)
		holdUnquote(t, s)
		holdPrint(t, api.Step{Kind: r.Intn(26) - 2, A: s})
		if q := script.Quote(s); q != quoted(s) {
			t.Errorf("P19.1: Quote(%q) = %s", s, q)
		}
	}
}
