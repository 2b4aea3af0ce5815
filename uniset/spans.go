package uniset

import (
	"cmp"
	"iter"
	"slices"
)

// integer: the types of whose numbers there can be spans.
type integer interface {
	~int | ~int8 | ~int16 | ~int32 | ~int64 | ~uint | ~uint8 | ~uint16 | ~uint32 | ~uint64
}

// span: the numbers from lo to hi, both within.
type span[N integer] struct{ lo, hi N }

// holds tells whether other has a number, and s has all that other has.
func (s span[N]) holds(other span[N]) bool {
	return s.lo <= other.lo && other.lo <= other.hi && other.hi <= s.hi
}

// isApart tells whether a number lies between s and next, which is behind it.
// The number ahead of next is asked for only where there is one.
func (s span[N]) isApart(next span[N]) bool {
	return next.lo > s.hi && next.lo-1 > s.hi
}

// spans: a set of numbers, as rising spans, each apart from the next: so a set
// has one form alone.
type spans[N integer] []span[N]

// joined tells the set of all numbers of all, in whatever order its spans are.
func joined[N integer](all iter.Seq[span[N]]) spans[N] {
	var out spans[N]
	rising := slices.SortedFunc(all, func(a, b span[N]) int { return cmp.Compare(a.lo, b.lo) })
	for _, s := range rising {
		last := len(out) - 1
		if last < 0 || out[last].isApart(s) {
			out = append(out, s)
			continue
		}
		out[last].hi = max(out[last].hi, s.hi)
	}
	return out
}

// gaps goes through what space has and l hasn't; space has all of l.
func (l spans[N]) gaps(space span[N]) iter.Seq[span[N]] {
	return func(yield func(span[N]) bool) {
		from := space.lo
		for _, s := range l {
			if from < s.lo && !yield(span[N]{from, s.lo - 1}) {
				return
			}
			if s.hi == space.hi { // nothing is behind it: there may be no number above
				return
			}
			from = s.hi + 1
		}
		yield(span[N]{from, space.hi})
	}
}

// common goes through what both l and other have.
func (l spans[N]) common(other spans[N]) iter.Seq[span[N]] {
	return func(yield func(span[N]) bool) {
		for i, j := 0, 0; i < len(l) && j < len(other); {
			lo, hi := max(l[i].lo, other[j].lo), min(l[i].hi, other[j].hi)
			if lo <= hi && !yield(span[N]{lo, hi}) {
				return
			}
			if l[i].hi < other[j].hi { // the one that ends first can meet no more
				i++
			} else {
				j++
			}
		}
	}
}
