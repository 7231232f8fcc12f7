package path

import (
	"strings"

	"furrow/api"
)

const (
	slash = '/'
	here  = "."
	back  = ".."
)

// formed: whether a text has the form of a path's, however long its parts are.
func formed(text string) bool {
	return strings.HasPrefix(text, "/") && strings.IndexByte(text, 0) < 0
}

// split: the text's parts, each in memory of its own, so that none keeps the whole text alive.
func split(text string) []string {
	var parts []string
	from := 0
next:
	for from < len(text) {
		for to := from; to < len(text); to++ {
			if text[to] == slash {
				parts = addPart(parts, text[from:to])
				from = to + 1
				continue next
			}
		}
		parts = addPart(parts, text[from:])
		break next
	}
	return parts
}

// addPart: the list with one part more; what stands between two slashes in a row is none.
func addPart(parts []string, part string) []string {
	if part == "" {
		return parts
	}
	return append(parts, strings.Clone(part))
}

func anyLong(parts []string) bool {
	for _, part := range parts {
		if len(part) > api.MaxName {
			return true
		}
	}
	return false
}

// telling: whether there is a text that is read as this path. What is too long is left at once, however many parts are still to come.
func telling(p api.Path) bool {
	if len(p.Parts) == 0 {
		return !p.Slash
	}
	room := api.MaxPath
	if p.Slash {
		room--
	}
	fits := true
all:
	for _, part := range p.Parts {
		room -= 1 + len(part)
		fits = part != "" && len(part) <= api.MaxName && room >= 0
		if !fits {
			break all
		}
		for at := range len(part) {
			if part[at] == slash || part[at] == 0 {
				fits = false
				break all
			}
		}
	}
	return fits
}

// endsInName: whether the path's last part is one that a directory can be asked for.
func endsInName(p api.Path) bool {
	if len(p.Parts) == 0 {
		return false
	}
	last := p.Parts[len(p.Parts)-1]
	return last != here && last != back
}
