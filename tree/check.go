package tree

import "furrow/api"

// check: a case in which an operation ends ahead of its transaction, and what it answers then.
type check struct {
	holds func() bool
	why   api.Errno
}

// first: the answer of the first check that holds, and whether one does. Those behind it aren't asked: they may lean on those ahead of them.
func first(checks []check) (api.Errno, bool) {
	for _, c := range checks {
		if c.holds() {
			return c.why, true
		}
	}
	return api.OK, false
}
