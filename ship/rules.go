package ship

import "furrow/api"

// rule: by which steps the members of a kind go, come, and become what they are in the other list, where they are kept.
type rule struct {
	goes    func(m api.Member) api.Step
	comes   func(m api.Member) []api.Step
	changes func(from, to api.Member) []api.Step
}

// rules: the table of all kinds that a good list has, by their numbers. It stands in a function, as it holds functions.
func rules() [api.MemberLink + 1]rule {
	return [...]rule{
		api.KindFile:   {goes: unlink, comes: create, changes: changes},
		api.KindDir:    {goes: rmdir, comes: mkdir, changes: nothing},
		api.MemberLink: {goes: unlink, comes: link, changes: nothing},
	}
}

// leads: the steps that make a member of the list to, where the other list has the member from at its path.
func (r rule) leads(from, to api.Member) []api.Step {
	if kept(from, to) {
		return r.changes(from, to)
	}
	return r.comes(to)
}

func unlink(m api.Member) api.Step { return api.Step{Kind: api.StepUnlink, A: placeOf(m.Path)} }

func rmdir(m api.Member) api.Step { return api.Step{Kind: api.StepRmdir, A: placeOf(m.Path)} }

func mkdir(m api.Member) []api.Step {
	return []api.Step{{Kind: api.StepMkdir, A: placeOf(m.Path)}}
}

func link(m api.Member) []api.Step {
	return []api.Step{{Kind: api.StepLink, A: placeOf(m.Link), B: placeOf(m.Path)}}
}

// create: a new file has no bytes, and is changed from there on.
func create(m api.Member) []api.Step {
	made := api.Step{Kind: api.StepCreate, A: placeOf(m.Path)}
	return append([]api.Step{made}, changes(api.Member{}, m)...)
}

// nothing: a directory or a link that is kept is the same already.
func nothing(_, _ api.Member) []api.Step { return nil }

// placeOf: the path of the interface at which a member stands.
func placeOf(path string) string { return "/" + path }
