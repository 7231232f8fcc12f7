package script

import (
	"strconv"
	"strings"

	"furrow/api"
)

// kind: a kind of step: its word, and its arguments in the line's order.
type kind struct {
	number int
	word   string
	args   []argument
}

// argument: what stands behind a kind's word. Each takes one word, but a list, which is the last one, takes all that are left.
type argument struct {
	quoted bool                           // a quoted text is wanted, not a number
	list   bool                           // it takes all words that are left
	read   func(s *api.Step, w word) bool // puts a word into the step; false: it is no number
	tell   func(s api.Step) []string      // the argument's words, as they stand on a line
}

// kinds: the table of all kinds. It stands in a function, as it holds functions.
func kinds() []kind {
	a, b := textA(), textB()
	n, m, k, list := numberN(), numberM(), numberK(), numberList()
	return []kind{
		{api.StepMkfs, "mkfs", []argument{n, m, k}},
		{api.StepMount, "mount", []argument{n, list}},
		{api.StepUnmount, "unmount", nil},
		{api.StepCreate, "create", []argument{a}},
		{api.StepMkdir, "mkdir", []argument{a}},
		{api.StepUnlink, "unlink", []argument{a}},
		{api.StepRmdir, "rmdir", []argument{a}},
		{api.StepRename, "rename", []argument{a, b}},
		{api.StepLink, "link", []argument{a, b}},
		{api.StepRead, "read", []argument{a, n, m}},
		{api.StepWrite, "write", []argument{a, n, b}},
		{api.StepTruncate, "truncate", []argument{a, n}},
		{api.StepStat, "stat", []argument{a}},
		{api.StepList, "list", []argument{a}},
		{api.StepWalk, "walk", nil},
		{api.StepInfo, "info", nil},
		{api.StepArm, "arm", []argument{n}},
		{api.StepCrash, "crash", []argument{list}},
		{api.StepPoke, "poke", []argument{n, m}},
		{api.StepState, "state", nil},
		{api.StepScan, "scan", []argument{n, list}},
	}
}

func textA() argument {
	return argument{
		quoted: true,
		read:   func(s *api.Step, w word) bool { s.A = w.text; return true },
		tell:   func(s api.Step) []string { return []string{Quote(s.A)} },
	}
}

func textB() argument {
	return argument{
		quoted: true,
		read:   func(s *api.Step, w word) bool { s.B = w.text; return true },
		tell:   func(s api.Step) []string { return []string{Quote(s.B)} },
	}
}

func numberN() argument {
	return argument{
		read: func(s *api.Step, w word) (ok bool) { s.N, ok = number(w.text); return ok },
		tell: func(s api.Step) []string { return numerals(s.N) },
	}
}

func numberM() argument {
	return argument{
		read: func(s *api.Step, w word) (ok bool) { s.M, ok = number(w.text); return ok },
		tell: func(s api.Step) []string { return numerals(s.M) },
	}
}

func numberK() argument {
	return argument{
		read: func(s *api.Step, w word) (ok bool) { s.K, ok = number(w.text); return ok },
		tell: func(s api.Step) []string { return numerals(s.K) },
	}
}

func numberList() argument {
	return argument{
		list: true,
		read: func(s *api.Step, w word) bool {
			n, ok := number(w.text)
			s.List = append(s.List, n)
			return ok
		},
		tell: func(s api.Step) []string { return numerals(s.List...) },
	}
}

func numerals(list ...int) []string {
	var words []string
	for _, n := range list {
		words = append(words, strconv.Itoa(n))
	}
	return words
}

// kindOf: the kind that a line's first word names; false, if there is none, or it names none.
func kindOf(words []word) (kind, bool) {
	if len(words) == 0 || words[0].quoted {
		return kind{}, false
	}
	for _, k := range kinds() {
		if k.word == words[0].text {
			return k, true
		}
	}
	return kind{}, false
}

// argumentAt: the argument that takes the word at a place; false, if none does.
func (k kind) argumentAt(place int) (argument, bool) {
	if place < len(k.args) {
		return k.args[place], true
	}
	if len(k.args) == 0 {
		return argument{}, false
	}
	last := k.args[len(k.args)-1]
	return last, last.list
}

// needs: how many words there are at least.
func (k kind) needs() int {
	least := 0
	for _, arg := range k.args {
		if !arg.list {
			least++
		}
	}
	return least
}

// takes: whether the words are as many as the kind's arguments want, quoted texts and plain words each where they are wanted.
func (k kind) takes(words []word) bool {
	if len(words) < k.needs() {
		return false
	}
	for place, w := range words {
		if arg, ok := k.argumentAt(place); !ok || arg.quoted != w.quoted {
			return false
		}
	}
	return true
}

// step: the step that the words tell, which the kind takes; false, if one that stands for a number is none.
func (k kind) step(words []word) (api.Step, bool) {
	s := api.Step{Kind: k.number}
	for place, w := range words {
		if arg, ok := k.argumentAt(place); !ok || !arg.read(&s, w) {
			return api.Step{}, false
		}
	}
	return s, true
}

// written: the line that a step's kind makes of the fields that it has, whatever the others hold; the empty text, if no kind has the step's number.
func written(s api.Step) string {
	for _, k := range kinds() {
		if k.number == s.Kind {
			words := []string{k.word}
			for _, arg := range k.args {
				words = append(words, arg.tell(s)...)
			}
			return strings.Join(words, gap)
		}
	}
	return ""
}
