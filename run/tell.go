package run

import (
	"errors"
	"strconv"
	"strings"

	"furrow/api"
	"furrow/script"
)

const (
	done    = "ok"
	gap     = " "
	lineEnd = "\n"
)

// refusal: an Errno as an error, which OK is none.
func refusal(e api.Errno) error {
	if e == api.OK {
		return nil
	}
	return e
}

// word: the word of an error; of a breach, three words.
func word(err error) string {
	var breach *api.CorruptError
	if errors.Is(err, api.ErrCorrupt) && errors.As(err, &breach) {
		return inWords(word(api.ErrCorrupt), word(breach.Reason), number(breach.Place))
	}
	var reason api.Errno
	if errors.As(err, &reason) {
		return reason.Error()
	}
	return err.Error() // no layer below answers such an error
}

func inWords(words ...string) string { return strings.Join(words, gap) }

func inLines(lines ...string) string { return strings.Join(lines, lineEnd) }

// indented: a line that belongs to what is told ahead of it.
func indented(words ...string) string { return gap + gap + inWords(words...) }

func number(n int) string { return strconv.Itoa(n) }

func kindWord(kind int) string {
	switch kind {
	case api.KindFile:
		return "file"
	case api.KindDir:
		return "dir"
	}
	return "free"
}

func statWords(s api.Stat) []string {
	return []string{number(s.Ino), kindWord(s.Kind), number(s.Size), number(s.Links), number(s.Pages)}
}

func statText(s api.Stat) string {
	return inWords(append([]string{done}, statWords(s)...)...)
}

// dentWords: each name and its inode.
func dentWords(list []api.Dent) []string {
	var words []string
	for _, d := range list {
		words = append(words, script.Quote(d.Name), number(d.Ino))
	}
	return words
}

func listText(list []api.Dent) string {
	return inWords(append([]string{done}, dentWords(list)...)...)
}

func infoText(i api.Info) string {
	return inWords(done, number(i.Pages), number(i.FreePages), number(i.Inodes), number(i.FreeInodes))
}

func walkText(items []api.Item) string {
	lines := []string{done}
	for _, i := range items {
		lines = append(lines, indented(itemWords(i)...))
	}
	return inLines(lines...)
}

func itemWords(i api.Item) []string {
	words := append([]string{script.Quote(i.Path)}, statWords(i.Stat)...)
	if i.Stat.Kind == api.KindFile {
		words = append(words, strconv.FormatUint(uint64(i.Sum), 10))
	}
	return words
}

// nodeWords: a node's line. A list's word stands there only where the list has an element.
func nodeWords(n api.Node) []string {
	words := []string{
		"inode", number(n.Ino), kindWord(n.Kind), number(n.Links),
		"size", number(n.Size), "head", number(n.Head), "tail", number(n.Tail), "entries", number(n.Entries),
	}
	words = append(words, titled("log", pageWords(n.Log))...)
	switch n.Kind {
	case api.KindFile:
		words = append(words, titled("map", runWords(n.Map))...)
	case api.KindDir:
		words = append(words, titled("names", dentWords(n.Names))...)
	}
	return words
}

// titled: a list's words behind the one that names them; none of a list without words.
func titled(title string, words []string) []string {
	if len(words) == 0 {
		return nil
	}
	return append([]string{title}, words...)
}

func pageWords(pages []int) []string {
	var words []string
	for _, p := range pages {
		words = append(words, number(p))
	}
	return words
}

func runWords(runs []api.Run) []string {
	var words []string
	for _, r := range runs {
		words = append(words, number(r.Off)+":"+number(r.Page)+"+"+number(r.Count))
	}
	return words
}

// freeWords: the line of the free pages, whose word stands alone where nothing is free.
func freeWords(spans []api.Span) []string {
	words := []string{"free"}
	for _, s := range spans {
		words = append(words, number(s.From)+"+"+number(s.Count))
	}
	return words
}
