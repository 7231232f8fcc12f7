package archive

import (
	"slices"
	"strings"

	"furrow/api"
	"furrow/layout"
)

const (
	slash = "/"
	zero  = "\x00"
	top   = "" // the path of the tree's top, which is no member
)

// ledger: what stands ahead in a list whose members are looked at one by one. So a list that is read needn't be there as a whole to be refused.
type ledger struct {
	last  string         // the last member's path; at first that of the top, which is ahead of all
	kinds map[string]int // the kinds of the members by their paths; the top is among them, as a directory
	links map[string]int // how many links there are to a path
}

func newLedger() *ledger {
	return &ledger{last: top, kinds: map[string]int{top: api.KindDir}, links: map[string]int{}}
}

// rule: what is asked of the members of a kind, beside what is asked of all.
type rule struct {
	kind  int
	holds func(l *ledger, m api.Member) bool
}

// rules: the table of all kinds. It stands in a function, as it holds functions.
func rules() []rule {
	return []rule{
		{api.KindDir, func(_ *ledger, m api.Member) bool { return m.Link == "" && bare(m) }},
		{api.KindFile, func(_ *ledger, m api.Member) bool { return m.Link == "" && goodSize(m.Size) && goodPieces(m) }},
		{api.MemberLink, func(l *ledger, m api.Member) bool { return bare(m) && l.linkable(m.Link) }},
	}
}

func good(list []api.Member) bool {
	l := newLedger()
	for _, m := range list {
		if !l.takes(m) {
			return false
		}
	}
	return true
}

// takes: whether a member can come next in a good list; if so it is put down.
func (l *ledger) takes(m api.Member) bool {
	if l.full() || !goodPath(m.Path) || !ahead(l.last, m.Path) || l.kinds[parentOf(m.Path)] != api.KindDir || !l.asItsKind(m) {
		return false
	}
	l.last = m.Path
	l.kinds[m.Path] = m.Kind
	l.links[m.Link]++ // of what is no link: to the top, which nobody asks for
	return true
}

func (l *ledger) full() bool {
	members := len(l.kinds) - 1 // the top is none
	return members >= api.MaxMembers
}

// asItsKind: whether a member is what its kind asks for. There is no member of a kind that has no rule.
func (l *ledger) asItsKind(m api.Member) bool {
	for _, r := range rules() {
		if r.kind == m.Kind {
			return r.holds(l, m)
		}
	}
	return false
}

// linkable: whether a path is that of a file that can have one more name. (Its first name is no link.)
func (l *ledger) linkable(path string) bool {
	return l.kinds[path] == api.KindFile && l.links[path] < api.MaxLinks-1
}

// goodPath: whether a path can be a member's. Its length is asked first, so that no long text is taken apart.
func goodPath(path string) bool {
	if len(path) >= api.MaxPath { // a slash in front makes it a path of the interface
		return false
	}
	for _, name := range namesOf(path) {
		if !layout.ValidName(name) {
			return false
		}
	}
	return true
}

func namesOf(path string) []string { return strings.Split(path, slash) }

// ahead: whether the one path is ahead of the other. Names are compared, not texts: the slash's byte is above some that stand in names.
func ahead(one, other string) bool {
	return slices.Compare(namesOf(one), namesOf(other)) < 0
}

func parentOf(path string) string {
	at := strings.LastIndex(path, slash)
	if at < 0 {
		return top
	}
	return path[:at]
}

// bare: whether a member has no bytes.
func bare(m api.Member) bool { return m.Size == 0 && len(m.Pieces) == 0 }

func goodSize(size int) bool { return size >= 0 && size <= api.MaxSize }

// goodPieces: whether a file of good size can have its pieces.
func goodPieces(m api.Member) bool {
	least := 0 // what the next Off is at least
	for _, p := range m.Pieces {
		if p.Off < least || p.Off >= m.Size || p.Off%api.PageSize != 0 {
			return false
		}
		if len(p.Data) != min(api.PageSize, m.Size-p.Off) || zeros(p.Data) {
			return false
		}
		least = p.Off + api.PageSize
	}
	return true
}

func zeros(text string) bool { return strings.Trim(text, zero) == "" }
