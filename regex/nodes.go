package regex

import (
	"iter"
	"slices"

	"hornbook/api"
	"hornbook/lex"
	"hornbook/uniset"
)

// nodes goes through e and all that is below it, each ahead of its kids, from
// the left on.
func nodes(e api.Node) iter.Seq[api.Node] {
	return func(yield func(api.Node) bool) {
		for node := range pairs(e, e) {
			if !yield(node) {
				return
			}
		}
	}
}

// pairs goes through a and b at once, each pair ahead of its kids, from the left
// on, as far as both have kids. What is still to come is kept in a list: trees
// that are read of long rows are too deep for calls within calls.
func pairs(a, b api.Node) iter.Seq2[api.Node, api.Node] {
	type rest struct{ a, b []api.Node }
	return func(yield func(api.Node, api.Node) bool) {
		if !yield(a, b) {
			return
		}
		todo := []rest{{a.Kids, b.Kids}}
		for len(todo) > 0 {
			last := &todo[len(todo)-1]
			if len(last.a) == 0 || len(last.b) == 0 {
				todo = todo[:len(todo)-1]
				continue
			}
			one, other := last.a[0], last.b[0]
			last.a, last.b = last.a[1:], last.b[1:]
			if !yield(one, other) {
				return
			}
			todo = append(todo, rest{one.Kids, other.Kids})
		}
	}
}

// isLike tells whether two nodes are alike but for their places and for what is
// in their kids.
func isLike(a, b api.Node) bool {
	return a.Kind == b.Kind && a.Name == b.Name && slices.Equal(a.Set, b.Set) && len(a.Kids) == len(b.Kids)
}

// isNode tells whether e, but for what is in its kids, can be read.
func isNode(e api.Node) bool {
	if len(e.Kids) != kidsOf(e.Kind) {
		return false
	}
	switch e.Kind {
	case api.NSet:
		return e.Name == "" && len(e.Set) <= api.MaxRanges && uniset.Is(e.Set)
	case api.NVar:
		return len(e.Set) == 0 && isName(e.Name)
	case api.NNone, api.NCat, api.NAlt, api.NStar, api.NPlus, api.NOpt:
		return len(e.Set) == 0 && e.Name == ""
	}
	return false
}

// kidsOf tells how many kids a node of a kind has.
func kidsOf(kind int) int {
	switch kind {
	case api.NCat, api.NAlt:
		return 2
	case api.NStar, api.NPlus, api.NOpt:
		return 1
	}
	return 0
}

// isName tells whether text is one that a TName can have: lex says which, and
// the length is asked first, so that lex isn't given much.
func isName(text string) bool {
	if len(text) > api.MaxName {
		return false
	}
	signs, _, err := lex.Scan("$" + text)
	return err == api.OK && signs[0].Kind == api.TName && signs[0].Text == text
}
