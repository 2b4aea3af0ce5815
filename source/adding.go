package source

import (
	"slices"

	"hornbook/api"
	"hornbook/match"
	"hornbook/tag"
)

// root is the tag that is nobody's child.
const root = "root"

// addParent makes the tag that ident is the parent of x.
func addParent(x *api.Source, ident string) api.Errno {
	canon, err := tag.Canon(ident)
	switch {
	case err != api.OK || canon == root:
		return api.ErrTag
	case x.Parent != "":
		return api.ErrTwice
	}
	x.Parent = canon
	return api.OK
}

// addVar adds a variable; only those ahead of it can be in it, so none is ever
// in a circle.
func addVar(x *api.Source, v api.Var) api.Errno {
	if err := roomFor(v.Name, names(x.Vars), api.MaxVars); err != api.OK {
		return err
	}
	e, err := match.Fill(v.E, x.Vars)
	if err != api.OK {
		return err
	}
	x.Vars = append(x.Vars, api.Var{Name: v.Name, E: e})
	return api.OK
}

func addRule(x *api.Source, rule api.Rule) api.Errno {
	if err := roomFor(rule.N, numbers(x.Rules), api.MaxRules); err != api.OK {
		return err
	}
	rule, err := filled(rule, x.Vars)
	if err != api.OK {
		return err
	}
	x.Rules = append(x.Rules, rule)
	return api.OK
}

func addDrop(x *api.Source, n int) api.Errno {
	if err := roomFor(n, x.Drop, api.MaxRules); err != api.OK {
		return err
	}
	x.Drop = append(x.Drop, n)
	return api.OK
}

// addWord adds a word to those that are skipped or to those that are kept.
func addWord(list *[]string, word string) api.Errno {
	if !hasWordSize(word) {
		return api.ErrLong
	}
	if err := roomFor(word, *list, api.MaxSkips); err != api.OK {
		return err
	}
	*list = append(*list, word)
	return api.OK
}

// filled tells a rule with both sides filled, the left one first.
func filled(rule api.Rule, vars []api.Var) (api.Rule, api.Errno) {
	left, err := match.Fill(rule.Left, vars)
	if err != api.OK {
		return api.Rule{}, err
	}
	right, err := match.Fill(rule.Right, vars)
	if err != api.OK {
		return api.Rule{}, err
	}
	return api.Rule{N: rule.N, Break: rule.Break, Left: left, Right: right}, api.OK
}

// roomFor tells why one can't come behind those of list, of which there may be
// so many: that it is there already is told first.
func roomFor[T comparable](one T, list []T, most int) api.Errno {
	switch {
	case slices.Contains(list, one):
		return api.ErrTwice
	case len(list) >= most:
		return api.ErrMany
	}
	return api.OK
}

func names(vars []api.Var) []string {
	var list []string
	for _, v := range vars {
		list = append(list, v.Name)
	}
	return list
}

func numbers(rules []api.Rule) []int {
	var list []int
	for _, rule := range rules {
		list = append(list, rule.N)
	}
	return list
}
