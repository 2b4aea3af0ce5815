package classes

import (
	"iter"
	"maps"
	"slices"

	"hornbook/api"
	"hornbook/uniset"
)

// ends goes, rising, through the places at which a set begins or has ended,
// MaxRune + 1 among them, with the sets that do so there. It does not pass a
// place at which nothing changes: a set's ranges never touch.
func ends(sets [][]api.Range) iter.Seq2[int32, membership] {
	return func(yield func(int32, membership) bool) {
		turned := map[int32]membership{}
		for i, l := range sets {
			for _, r := range uniset.Union(l, nil) { // lists that are no sets count as the sets they stand for
				turned[r.Lo] ^= 1 << i
				turned[r.Hi+1] ^= 1 << i
			}
		}
		for _, at := range slices.Sorted(maps.Keys(turned)) {
			if !yield(at, turned[at]) {
				return
			}
		}
	}
}

// cuts goes, rising, through the whole code space in the longest pieces that
// no set has in part, with the sets that have them.
func cuts(sets [][]api.Range) iter.Seq2[api.Range, membership] {
	return func(yield func(api.Range, membership) bool) {
		from, in := int32(0), membership(0)
		for at, turned := range ends(sets) {
			if from < at && !yield(api.Range{Lo: from, Hi: at - 1}, in) {
				return
			}
			from, in = at, in^turned
		}
		if from <= api.MaxRune {
			yield(api.Range{Lo: from, Hi: api.MaxRune}, in)
		}
	}
}
