package merge

import (
	"slices"

	"hornbook/api"
)

// placeless tells an expression like e, all At 0, in memory of its own. A
// source's variables are filled in, so there are no names.
func placeless(e api.Node) api.Node {
	own := api.Node{Kind: e.Kind, Set: append([]api.Range(nil), e.Set...)}
	for _, kid := range e.Kids {
		own.Kids = append(own.Kids, placeless(kid))
	}
	return own
}

// hasPlace tells whether an At of e isn't 0.
func hasPlace(e api.Node) bool { return e.At != 0 || slices.ContainsFunc(e.Kids, hasPlace) }
