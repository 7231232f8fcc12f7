package script_test

import (
	"fmt"
	"math/rand"
	"slices"
	"strconv"
	"strings"
	"testing"

	"furrow/api"
	"furrow/script"
)

// printed: Print by the chapter's words.
func printed(s api.Step) string {
	of := slices.IndexFunc(table, func(k shape) bool { return k.kind == s.Kind })
	if of < 0 {
		return ""
	}
	text, left := table[of].word, s
	for _, arg := range table[of].args {
		switch arg {
		case 'A':
			text, left.A = text+" "+quoted(s.A), ""
		case 'B':
			text, left.B = text+" "+quoted(s.B), ""
		case 'N':
			text, left.N = text+" "+strconv.Itoa(s.N), 0
		case 'M':
			text, left.M = text+" "+strconv.Itoa(s.M), 0
		case 'K':
			text, left.K = text+" "+strconv.Itoa(s.K), 0
		case '*':
			for _, n := range s.List {
				text += " " + strconv.Itoa(n)
			}
			left.List = nil
		}
	}
	if !same(left, api.Step{Kind: s.Kind}) || len(text) > 20000 {
		return ""
	}
	return text
}

func holdPrint(t *testing.T, s api.Step) string {
	t.Helper()
	text := script.Print(s)
	if want := printed(s); text != want {
		t.Errorf("P19.5: Print(%.90v) = %.90q, want %.90q", s, text, want)
	}
	return text
}

// spoilt: the step with one field set that may not be its kind's.
func spoilt(s api.Step, field int) api.Step {
	switch field {
	case 0:
		s.A = "\x00"
	case 1:
		s.B = " "
	case 2:
		s.N = -1
	case 3:
		s.M = 1
	case 4:
		s.K = 1 << 40
	case 5:
		s.List = []int{0}
	case 6:
		s.List = []int{}
	}
	return s
}

// Each kind with each field set that it has or doesn't have; kinds that there aren't.
func TestP19_5Fields(t *testing.T) {
	for kind := -3; kind < 26; kind++ {
		for a := range 8 {
			for b := range 8 {
				holdPrint(t, spoilt(spoilt(api.Step{Kind: kind}, a), b))
				holdPrint(t, spoilt(spoilt(api.Step{Kind: kind, A: "a", N: 1}, a), b))
			}
		}
	}
	for _, kind := range values {
		holdPrint(t, api.Step{Kind: kind, N: 1})
		holdPrint(t, api.Step{Kind: kind})
	}
	if text := script.Print(api.Step{Kind: 15, List: []int{}}); text != "walk" {
		t.Errorf("P19.5: an empty list counts: %q", text)
	}
}

func TestP19_5Values(t *testing.T) {
	for _, a := range texts {
		for _, b := range texts {
			for _, n := range values[:6] {
				holdPrint(t, api.Step{Kind: 11, A: a, N: n, B: b})
			}
			holdPrint(t, api.Step{Kind: 8, A: a, B: b})
		}
	}
	for _, n := range values {
		for _, m := range values {
			holdPrint(t, api.Step{Kind: 1, N: n, M: m, K: n})
			holdPrint(t, api.Step{Kind: 21, N: n, List: []int{m, n, m}})
			holdPrint(t, api.Step{Kind: 18, List: []int{m, n}})
		}
	}
}

// The longest lines: one byte more, and there is none.
func TestP19_5Longest(t *testing.T) {
	for _, c := range []struct {
		s    api.Step
		long int
	}{
		{api.Step{Kind: 4, A: strings.Repeat("b", 19991)}, 20000}, {api.Step{Kind: 4, A: strings.Repeat("b", 19992)}, 0}, {api.Step{Kind: 4, A: strings.Repeat("\x00", 4997) + "bbb"}, 20000}, {api.Step{Kind: 4, A: strings.Repeat("\x00", 4998)}, 0}, {api.Step{Kind: 4, A: strings.Repeat("\n", 9995) + "b"}, 20000}, {api.Step{Kind: 4, A: strings.Repeat("\"", 9996)}, 0},
		{api.Step{Kind: 9, A: strings.Repeat("b", 9995), B: strings.Repeat("c", 9994)}, 19999}, {api.Step{Kind: 9, A: strings.Repeat("b", 9995), B: strings.Repeat("c", 9995)}, 20000}, {api.Step{Kind: 9, A: strings.Repeat("b", 9996), B: strings.Repeat("c", 9995)}, 0},
		{api.Step{Kind: 18, List: slices.Repeat([]int{7}, 9997)}, 19999}, {api.Step{Kind: 18, List: append(slices.Repeat([]int{7}, 9996), 10)}, 20000}, {api.Step{Kind: 18, List: slices.Repeat([]int{7}, 9998)}, 0}, {api.Step{Kind: 2, N: 10, List: slices.Repeat([]int{7}, 9996)}, 20000}, {api.Step{Kind: 2, N: 100, List: slices.Repeat([]int{7}, 9996)}, 0},
		{api.Step{Kind: 18, List: make([]int, 20000)}, 0}, {api.Step{Kind: 11, A: "/a", B: strings.Repeat("b", 4096)}, 4111}, {api.Step{Kind: 11, A: "/a", B: strings.Repeat("\x00", 4096)}, 16399},
	} {
		if text := holdPrint(t, c.s); len(text) != c.long {
			t.Errorf("P19.5: Print(%.40v) has %d bytes, want %d", c.s, len(text), c.long)
		}
	}
}

// there: what has a line is read from it again.
func there(t *testing.T, s api.Step) string {
	t.Helper()
	text := script.Print(s)
	if back, e := script.Line(text); text != "" && (e != api.OK || !same(back, s)) {
		t.Errorf("P19.6: Line(Print(%+v)) = %+v, %d", s, back, e)
	}
	return text
}

func TestP19_6There(t *testing.T) {
	r := chance()
	for _, k := range table {
		for range 1500 {
			s := drawn(r, k)
			if there(t, s) == "" {
				t.Errorf("P19.6: %+v has no line", s)
			}
			holdPrint(t, s)
		}
	}
}

// looseText: quotes that stand for a text, some of its bytes told by their digits.
func looseText(r *rand.Rand, s string) string {
	q := ""
	for i := range len(s) {
		if r.Intn(3) == 0 {
			q += fmt.Sprintf(`\x%02x`, s[i])
		} else {
			q += byteQuoted(s[i])
		}
	}
	return `"` + q + `"`
}

// loosely: a line that is read as the step, though it needn't be the one that is printed.
func loosely(r *rand.Rand, k shape, s api.Step) string {
	b := k.word
	add := func(w string) { b += strings.Repeat(" ", 1+r.Intn(3)) + w }
	for _, arg := range k.args {
		switch arg {
		case 'A':
			add(looseText(r, s.A))
		case 'B':
			add(looseText(r, s.B))
		case 'N':
			add(strconv.Itoa(s.N))
		case 'M':
			add(strconv.Itoa(s.M))
		case 'K':
			add(strconv.Itoa(s.K))
		case '*':
			for _, n := range s.List {
				add(strconv.Itoa(n))
			}
		}
	}
	return strings.Repeat(" ", r.Intn(3)) + b + strings.Repeat(" ", r.Intn(3))
}

// A line that is read has a step whose line isn't longer, and is read as it.
func TestP19_6Back(t *testing.T) {
	r := chance()
	for _, k := range table {
		for range 800 {
			want := drawn(r, k)
			text := loosely(r, k, want)
			s, e := hold(t, text)
			if e != api.OK || !same(s, want) {
				t.Errorf("P19.6: Line(%q) = %+v, %d, want %+v", text, s, e, want)
			}
			if p := there(t, s); p == "" || len(p) > len(text) {
				t.Errorf("P19.6: Print(Line(%q)) = %q", text, p)
			}
		}
	}
	for _, text := range []string{`stat "` + strings.Repeat(`\x41`, 4998) + `"`, strings.Repeat(" ", 19996) + "walk", "crash" + strings.Repeat(" 1", 9997), `stat "` + strings.Repeat(`\n`, 9996) + `"`} {
		s, e := script.Line(text)
		if p := there(t, s); e != api.OK || p == "" || len(p) > len(text) {
			t.Errorf("P19.6: Print(Line(%.40q)) has %d bytes, %d", text, len(p), e)
		}
	}
}

// No two steps have one line.
func TestP19_6Apart(t *testing.T) {
	r := chance()
	of := map[string]api.Step{}
	for range 40000 {
		s := drawn(r, pick(r, table))
		if r.Intn(4) == 0 {
			s = spoilt(s, r.Intn(7))
		}
		text := script.Print(s)
		if text == "" {
			continue
		}
		if other, ok := of[text]; ok && !same(other, s) {
			t.Errorf("P19.6: %+v and %+v have the line %q", s, other, text)
		}
		of[text] = s
	}
}

// A list's text is its steps' lines, and is read as these steps.
func TestP19_7(t *testing.T) {
	r := chance()
	for range 4000 {
		var list []api.Step
		want, whole := "", true
		for range r.Intn(6) {
			s := drawn(r, pick(r, table))
			if r.Intn(12) == 0 {
				s = spoilt(s, r.Intn(7))
			}
			list = append(list, s)
			want, whole = want+printed(s)+"\n", whole && printed(s) != ""
		}
		if !whole {
			want = ""
		}
		text := script.Text(list)
		if text != want {
			t.Errorf("P19.7: Text(%+v) = %q, want %q", list, text, want)
		}
		if text == "" {
			continue
		}
		steps, errs := script.Parse(text)
		if !slices.EqualFunc(steps, list, same) || !slices.Equal(errs, make([]api.Errno, len(list))) {
			t.Errorf("P19.7: Parse(%q) = %+v, %v", text, steps, errs)
		}
	}
	for _, list := range [][]api.Step{nil, {}, {{}}, {{Kind: 22}}, {{}, {Kind: 15}}, {{Kind: 15}, {Kind: 16}, {Kind: 15, N: 1}}, {{Kind: 15}, {Kind: 13, A: strings.Repeat("x", 19994)}, {Kind: 15}}} {
		if text := script.Text(list); text != "" {
			t.Errorf("P19.7: Text(%.60v) = %.60q", list, text)
		}
	}
}
