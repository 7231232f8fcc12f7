package script_test

import (
	"math"
	"math/big"
	"math/rand"
	"regexp"
	"slices"
	"strings"
	"testing"

	"furrow/api"
	"furrow/script"
)

// shape: a kind as the chapter's table has it: A and B are texts, N, M and K numbers, * all that are left.
type shape struct {
	word string
	kind int
	args string
}

var table = []shape{
	{"mkfs", 1, "NMK"}, {"mount", 2, "N*"}, {"unmount", 3, ""}, {"create", 4, "A"}, {"mkdir", 5, "A"}, {"unlink", 6, "A"}, {"rmdir", 7, "A"}, {"rename", 8, "AB"}, {"link", 9, "AB"}, {"read", 10, "ANM"}, {"write", 11, "ANB"},
	{"truncate", 12, "AN"}, {"stat", 13, "A"}, {"list", 14, "A"}, {"walk", 15, ""}, {"info", 16, ""}, {"arm", 17, "N"}, {"crash", 18, "*"}, {"poke", 19, "NM"}, {"state", 20, ""}, {"scan", 21, "N*"},
}

// texts: what a text may be; many of them hold what quotes are made with.
var texts = []string{"", "a", "/", "/a b", " ", "  ", "\"", "\\", "\\\"", "\"\\", "\n", "\\n", "n", "x", "\\x41", "\x00", "\t", "\x1f", "\x7f", "\x80", "\xff", "~", "#", "walk", "0", "-1", "\u65e5\u672c", "\xc3", "a\nb", strings.Repeat("x", 30), strings.Repeat("\\", 9), strings.Repeat("\"", 9)}

// values: what a number may be.
var values = []int{0, 1, 2, 9, 10, 11, 24, 99, 100, 101, -1, -9, -10, -11, 1<<31 - 1, 1 << 31, -1 << 31, 1 << 62, math.MaxInt, math.MaxInt - 1, math.MinInt, math.MinInt + 1}

// wrong: words that stand for no number.
var wrong = []string{"00", "01", "-0", "-00", "-01", "+0", "+1", "1e3", "-", "--1", "1-", "- ", "x", "1x", "x1", "0x1", "0b1", "0o7", "1_0", "1.0", ".", "1.", "\t1", "1\t", "1\r", "1\n", "\x001", "1\x00", "\xb2", "\u0661", "\uff11", "9223372036854775808", "-9223372036854775809", "18446744073709551616", "18446744073709551617", "-18446744073709551615", "99999999999999999999999999", "1" + strings.Repeat("0", 400), "#", "walk", "\\", "'1'", "NaN", "Inf"}

func chance() *rand.Rand { return rand.New(rand.NewSource(19)) }

func pick[T any](r *rand.Rand, l []T) T { return l[r.Intn(len(l))] }

func same(a, b api.Step) bool {
	return a.Kind == b.Kind && a.A == b.A && a.B == b.B && a.N == b.N && a.M == b.M && a.K == b.K && slices.Equal(a.List, b.List)
}

var (
	quotes  = regexp.MustCompile(`^"(?:[ !#-\[\]-~]|\\["\\n]|\\x[0-9a-f][0-9a-f])*"`)
	escapes = regexp.MustCompile(`\\(?:["\\n]|x..)`)
	numbers = regexp.MustCompile(`^(?:0|-?[1-9][0-9]*)$`)
)

// meant: the text that a quoted text stands for.
func meant(q string) string {
	return escapes.ReplaceAllStringFunc(q[1:len(q)-1], func(e string) string {
		switch e[1] {
		case 'n':
			return "\n"
		case 'x':
			n, _ := new(big.Int).SetString(e[2:], 16)
			return string([]byte{byte(n.Int64())})
		}
		return e[1:]
	})
}

// value: a number's value by the chapter's words.
func value(w string) (int, bool) {
	if !numbers.MatchString(w) || strings.HasSuffix(w, "\n") {
		return 0, false
	}
	n, _ := new(big.Int).SetString(w, 10)
	return int(n.Int64()), n.IsInt64()
}

// split: a line's words by the chapter's words: each as it stands, quotes and all.
func split(line string) ([]string, bool) {
	var words []string
	for rest := strings.TrimLeft(line, " "); rest != ""; rest = strings.TrimLeft(rest, " ") {
		w := rest
		if rest[0] == 34 {
			w = quotes.FindString(rest)
			if w == "" || w != rest && rest[len(w)] != 32 {
				return nil, false
			}
		} else {
			w, _, _ = strings.Cut(rest, " ")
			if strings.Contains(w, "\"") {
				return nil, false
			}
		}
		words = append(words, w)
		rest = rest[len(w):]
	}
	return words, true
}

// put: the step with one argument more.
func put(s *api.Step, arg byte, w string) bool {
	n, ok := 0, true
	if arg != 'A' && arg != 'B' {
		n, ok = value(w)
	}
	switch arg {
	case 'A':
		s.A = meant(w)
	case 'B':
		s.B = meant(w)
	case 'N':
		s.N = n
	case 'M':
		s.M = n
	case 'K':
		s.K = n
	case '*':
		s.List = append(s.List, n)
	}
	return ok
}

// line: Line by the chapter's words.
func line(text string) (api.Step, api.Errno) {
	if len(text) > 20000 {
		return api.Step{}, api.ErrStepLong
	}
	words, ok := split(text)
	if !ok {
		return api.Step{}, api.ErrStepText
	}
	of := slices.IndexFunc(table, func(k shape) bool { return len(words) > 0 && k.word == words[0] })
	if of < 0 {
		return api.Step{}, api.ErrStepKind
	}
	words = words[1:]
	args, lists := strings.CutSuffix(table[of].args, "*")
	if len(words) < len(args) || len(words) > len(args) && !lists {
		return api.Step{}, api.ErrStepArgs
	}
	args += strings.Repeat("*", len(words)-len(args))
	for i, w := range words {
		if (w[0] == 34) != strings.Contains("AB", args[i:i+1]) {
			return api.Step{}, api.ErrStepArgs
		}
	}
	s := api.Step{Kind: table[of].kind}
	for i, w := range words {
		if !put(&s, args[i], w) {
			return api.Step{}, api.ErrStepNum
		}
	}
	return s, api.OK
}

// drawn: a step of a kind, its fields drawn.
func drawn(r *rand.Rand, k shape) api.Step {
	s := api.Step{Kind: k.kind}
	for _, arg := range k.args {
		switch arg {
		case 'A':
			s.A = pick(r, texts)
		case 'B':
			s.B = pick(r, texts) + pick(r, texts)
		case 'N':
			s.N = pick(r, values)
		case 'M':
			s.M = pick(r, values)
		case 'K':
			s.K = pick(r, values)
		case '*':
			for range r.Intn(4) {
				s.List = append(s.List, pick(r, values))
			}
		}
	}
	return s
}

// hold: Line of a text, which must be what the chapter's words make of it.
func hold(t *testing.T, text string) (api.Step, api.Errno) {
	t.Helper()
	s, e := script.Line(text)
	if want, wantE := line(text); e != wantE || !same(s, want) {
		t.Errorf("Line(%.90q) = %+v, %d, want %+v, %d", text, s, e, want, wantE)
	}
	return s, e
}
