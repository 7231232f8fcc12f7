package script

import (
	"strconv"
	"strings"

	"furrow/api"
)

const (
	lineEnd = "\n"
	gap     = " "
	remark  = '#'
)

// word: a word of a line: a plain one as it stands, or the text that a quoted one stands for.
type word struct {
	text   string
	quoted bool
}

// wordsOf: a line's words; false, if a quote stands where none can.
func wordsOf(line string) ([]word, bool) {
	var words []word
	at := 0
line:
	for {
		for {
			if at == len(line) {
				break line
			}
			if line[at] != blank {
				break
			}
			at++
		}
		w, n := firstWord(line[at:])
		if n == 0 {
			return nil, false
		}
		words = append(words, w)
		at += n
	}
	return words, true
}

// firstWord: the word at a text's beginning, where no blank is, and how many bytes it takes; none, if its quotes are wrong.
func firstWord(s string) (word, int) {
	if s[0] != quote {
		return plainWord(s)
	}
	text, n, e := Unquote(s)
	if e != api.OK || n < len(s) && s[n] != blank {
		return word{}, 0
	}
	return word{text: text, quoted: true}, n
}

func plainWord(s string) (word, int) {
	n := strings.IndexByte(s, blank)
	if n < 0 {
		n = len(s)
	}
	if strings.IndexByte(s[:n], quote) >= 0 {
		return word{}, 0
	}
	return word{text: s[:n]}, n
}

// passedOver: whether a line of a text is no step's.
func passedOver(line string) bool {
	rest := strings.TrimLeft(line, gap)
	return rest == "" || rest[0] == remark
}

// number: a number's value; false, if the word is none. The library reads +1, 00 and -0 too: a word counts only if it is how its value is written.
func number(text string) (int, bool) {
	n, err := strconv.ParseInt(text, 10, 64)
	if err != nil || strconv.FormatInt(n, 10) != text {
		return 0, false
	}
	return int(n), true
}
