package match

import (
	"iter"
	"slices"
	"strings"

	"hornbook/api"
)

// firsts tells the expression of each name: of the first that has it.
func firsts(vars []api.Var) map[string]api.Node {
	values := make(map[string]api.Node)
	for _, v := range slices.Backward(vars) {
		values[v.Name] = v.E
	}
	return values
}

// variables goes through the variables of e as they lie, so that what is to be
// there can be laid in their place; neither what lies below them nor what is
// laid there is gone through. All lists of kids that lead there are made new
// ahead of it, so that no other tree is changed. What is still to come is kept
// in a list: a tree can be too deep for calls within calls.
func variables(e *api.Node) iter.Seq[*api.Node] {
	return func(yield func(*api.Node) bool) {
		todo := []*api.Node{e}
		for len(todo) > 0 {
			node := todo[len(todo)-1]
			todo = todo[:len(todo)-1]
			if node.Kind == api.NVar {
				if !yield(node) {
					return
				}
				continue
			}
			node.Kids = slices.Clone(node.Kids)
			for i := range node.Kids {
				todo = append(todo, &node.Kids[i])
			}
		}
	}
}

// copyOf tells an expression like e in memory of its own.
func copyOf(e api.Node) api.Node {
	like := api.Node{Kind: e.Kind, At: e.At, Name: strings.Clone(e.Name)}
	like.Set = append(like.Set, e.Set...)
	for _, kid := range e.Kids {
		like.Kids = append(like.Kids, copyOf(kid))
	}
	return like
}
