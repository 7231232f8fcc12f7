package script

import (
	"strings"

	"furrow/api"
)

const (
	blank  = ' '
	quote  = '"'
	escape = '\\'
	feed   = '\n'
	digits = "0123456789abcdef"
)

// Quote: a text in quotes.
func Quote(s string) string {
	b := []byte{quote}
	for at := range len(s) {
		switch c := s[at]; {
		case c == quote:
			fallthrough
		case c == escape:
			b = append(b, escape, c)
		case c == feed:
			b = append(b, escape, 'n')
		case printable(c):
			b = append(b, c)
		default:
			b = append(b, escape, 'x', digits[c>>4], digits[c&15])
		}
	}
	return string(append(b, quote))
}

// Unquote: the text of quotes that stand at the beginning, and how many bytes they take. ErrStepText.
func Unquote(s string) (string, int, api.Errno) {
	if s == "" || s[0] != quote {
		return "", 0, api.ErrStepText
	}
	var b []byte
	at := 1
text:
	for at < len(s) {
		switch c := s[at]; {
		case c == quote:
			return string(b), at + 1, api.OK
		case c == escape:
			meant, n := escaped(s[at+1:])
			if n == 0 {
				break text
			}
			b = append(b, meant)
			at += 1 + n
		case printable(c):
			b = append(b, c)
			at++
		default:
			break text
		}
	}
	return "", 0, api.ErrStepText
}

// escaped: the byte that is meant by what stands behind a backslash, and how many bytes tell it; none, if it means nothing.
func escaped(s string) (byte, int) {
	if s == "" {
		return 0, 0
	}
	switch s[0] {
	case quote:
		fallthrough
	case escape:
		return s[0], 1
	case 'n':
		return feed, 1
	case 'x':
		return byDigits(s)
	}
	return 0, 0
}

// byDigits: the byte of x and two digits, and how many bytes tell it.
func byDigits(s string) (byte, int) {
	if len(s) < 3 {
		return 0, 0
	}
	high, low := strings.IndexByte(digits, s[1]), strings.IndexByte(digits, s[2])
	if high < 0 || low < 0 {
		return 0, 0
	}
	return byte(high<<4 | low), 3
}

// printable: whether a byte can stand in quotes for itself, if it isn't one that quotes are made with.
func printable(c byte) bool {
	return c >= 32 && c <= 126
}
