package script_test

import (
	"fmt"
	"strings"
	"testing"

	"furrow/api"
	"furrow/script"
)

// byteQuoted: how a byte stands in quotes, by the chapter's words.
func byteQuoted(c byte) string {
	switch {
	case c == 34:
		return `\"`
	case c == 92:
		return `\\`
	case c == 10:
		return `\n`
	case c >= 32 && c <= 126:
		return string([]byte{c})
	}
	return fmt.Sprintf(`\x%02x`, c)
}

func quoted(s string) string {
	q := `"`
	for i := range len(s) {
		q += byteQuoted(s[i])
	}
	return q + `"`
}

// unquoted: Unquote by the chapter's words.
func unquoted(s string) (string, int, api.Errno) {
	q := quotes.FindString(s)
	if q == "" {
		return "", 0, api.ErrStepText
	}
	return meant(q), len(q), api.OK
}

func holdUnquote(t *testing.T, s string) {
	t.Helper()
	text, n, e := script.Unquote(s)
	if wantText, wantN, wantE := unquoted(s); text != wantText || n != wantN || e != wantE {
		t.Errorf("P19.2: Unquote(%.60q) = %.60q, %d, %d, want %.60q, %d, %d", s, text, n, e, wantText, wantN, wantE)
	}
}

// Every two bytes, one beside the other.
func TestP19_1(t *testing.T) {
	if q := script.Quote(""); q != `""` {
		t.Errorf("Quote of nothing = %s", q)
	}
	for a := range 256 {
		for b := range 256 {
			s := string([]byte{byte(a), byte(b)})
			if q := script.Quote(s); q != quoted(s) {
				t.Fatalf("Quote(%q) = %s, want %s", s, q, quoted(s))
			}
		}
	}
	for _, s := range texts {
		if q := script.Quote(s); q != quoted(s) {
			t.Errorf("Quote(%q) = %s, want %s", s, q, quoted(s))
		}
	}
}

// Every byte as it stands, behind a backslash, and at both places behind \x; with the closing quote, and without it.
func TestP19_2Bytes(t *testing.T) {
	for c := range 256 {
		at := string([]byte{byte(c)})
		for _, s := range []string{at, `\` + at, `\x` + at, `\x` + at + "0", `\x0` + at, `\x` + at + at, `\x00` + at, `\\` + at, `\n` + at, `\"` + at} {
			for _, end := range []string{"", `"`, `""`, `" `, `"x`, "\"\n"} {
				holdUnquote(t, s+end)
				holdUnquote(t, `"`+s+end)
				holdUnquote(t, `"a`+s+end)
				holdUnquote(t, ` "`+s+end)
			}
		}
	}
}

// All bytes can be told by their digits, also those that could stand for themselves.
func TestP19_2Digits(t *testing.T) {
	for c := range 256 {
		text, n, e := script.Unquote(fmt.Sprintf(`"\x%02x"`, c))
		if text != string([]byte{byte(c)}) || n != 6 || e != api.OK {
			t.Errorf(`P19.2: Unquote("\x%02x") = %q, %d, %d`, c, text, n, e)
		}
		holdUnquote(t, fmt.Sprintf(`"\x%02X"`, c))
		holdUnquote(t, fmt.Sprintf(`"\X%02x"`, c))
		holdUnquote(t, fmt.Sprintf(`"\%03o"`, c))
	}
}

// Nothing that is cut short is a quoted text.
func TestP19_2Cut(t *testing.T) {
	whole := script.Quote(strings.Join(texts, ""))
	for n := range len(whole) {
		if text, took, e := script.Unquote(whole[:n]); text != "" || took != 0 || e != api.ErrStepText {
			t.Fatalf("P19.2: Unquote(%q) = %q, %d, %d", whole[:n], text, took, e)
		}
	}
}

// What was quoted is found again, whatever stands behind it.
func TestP19_2Back(t *testing.T) {
	for _, s := range texts {
		for _, rest := range texts {
			if text, n, e := script.Unquote(script.Quote(s) + rest); text != s || n != len(script.Quote(s)) || e != api.OK {
				t.Errorf("P19.2: Unquote(Quote(%q) + %q) = %q, %d, %d", s, rest, text, n, e)
			}
		}
	}
}

// Texts that are drawn of what quotes are made of.
func TestP19_2Drawn(t *testing.T) {
	r := chance()
	parts := []string{`"`, `\`, `\\`, `\"`, `\n`, `\x`, `\x4`, `\x41`, `\xg1`, `\x1G`, "x", "n", "4", "f", "F", "a", " ", "~", "\x7f", "\x1f", "\n", "\x80", "\u65e5"}
	for range 60000 {
		s := `"`
		for range r.Intn(9) {
			s += pick(r, parts)
		}
		holdUnquote(t, s)
		holdUnquote(t, s+`"`)
	}
}
