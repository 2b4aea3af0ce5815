package places

import (
	"slices"

	"hornbook/api"
)

// place: an NSet of an expression, and the places that can come right behind it.
type place struct {
	set    []api.Range
	follow mask
}

// ends: the places with which the texts of an expression can begin and end, and
// whether one of them is empty.
type ends struct {
	first, last mask
	null        bool
}

// add lays the places of e behind those that are there, tells those which can
// come behind one another within e, and answers e's ends. (An expression is not
// too deep for calls within calls: it has few nodes.)
func (a *Auto) add(e api.Node) ends {
	switch e.Kind {
	case api.NSet:
		return a.addPlace(e.Set)
	case api.NCat:
		x, y := a.add(e.Kids[0]), a.add(e.Kids[1])
		a.join(x.last, y.first)
		return x.ahead(y)
	case api.NAlt:
		x, y := a.add(e.Kids[0]), a.add(e.Kids[1])
		return x.or(y)
	case api.NStar:
		return a.addRow(e.Kids[0]).or(empty())
	case api.NPlus:
		return a.addRow(e.Kids[0])
	case api.NOpt:
		return a.add(e.Kids[0]).or(empty())
	}
	return empty() // NNone: there are no other kinds
}

// addPlace lays one more place, in memory of its own.
func (a *Auto) addPlace(set []api.Range) ends {
	it := only(len(a.places))
	a.places = append(a.places, place{set: slices.Clone(set)})
	return ends{first: it, last: it}
}

// addRow adds what can come behind itself.
func (a *Auto) addRow(e api.Node) ends {
	x := a.add(e)
	a.join(x.last, x.first)
	return x
}

// join lets each place of to come right behind each one of from.
func (a *Auto) join(from, to mask) {
	for i := range from.places() {
		a.places[i].follow |= to
	}
}

// empty tells the ends of the empty text.
func empty() ends { return ends{null: true} }

// or tells the ends of what one of two matches.
func (x ends) or(y ends) ends {
	return ends{x.first | y.first, x.last | y.last, x.null || y.null}
}

// ahead tells the ends of x with y behind it: those of the one reach through
// the other, where that can be empty.
func (x ends) ahead(y ends) ends {
	both := ends{x.first, y.last, x.null && y.null}
	if x.null {
		both.first |= y.first
	}
	if y.null {
		both.last |= x.last
	}
	return both
}
