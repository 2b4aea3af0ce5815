package trie

import (
	"iter"
	"slices"
)

// tree: rows of keys, none of them empty, that end alike, and trees below it, by
// what the rows have further ahead. All but the first one of all are there because
// a row is whole at it or because rows part ahead of it: so there are at most two
// trees a row, however long the rows are.
type tree[K comparable] struct {
	piece []K            // what the rows have ahead of the pieces of the trees above
	isRow bool           // whether the pieces from here up are a row
	below map[K]*tree[K] // by the last keys of their pieces; nil of none
}

// along goes down through the trees whose pieces row ends with, from t on, each
// with what row has ahead of them.
func (t *tree[K]) along(row []K) iter.Seq2[*tree[K], []K] {
	return func(yield func(*tree[K], []K) bool) {
		for at, rest := t, row; yield(at, rest); {
			at = at.toward(rest)
			if at == nil || alike(at.piece, rest) < len(at.piece) {
				return
			}
			rest = rest[:len(rest)-len(at.piece)]
		}
	}
}

// toward tells the tree below t whose piece has the last key of row, nil of none.
func (t *tree[K]) toward(row []K) *tree[K] {
	if len(row) == 0 {
		return nil
	}
	return t.below[row[len(row)-1]]
}

// find tells the tree at which row is whole, and the one above it; nil of a row
// that isn't there.
func (t *tree[K]) find(row []K) (at, above *tree[K]) {
	for next, rest := range t.along(row) {
		if len(rest) == 0 && next.isRow {
			return next, above
		}
		above = next
	}
	return nil, nil
}

// add tells false of a row that is there.
func (t *tree[K]) add(row []K) bool {
	at, rest := t, row
	for at, rest = range t.along(row) { // the last one counts
	}
	if next := at.toward(rest); next != nil {
		n := alike(next.piece, rest)
		next.part(n)
		at, rest = next, rest[:len(rest)-n]
	}
	if len(rest) > 0 {
		at = at.hang(&tree[K]{piece: slices.Clone(rest)})
	}
	isNew := !at.isRow
	at.isRow = true
	return isNew
}

// hang puts a tree below t, and tells it.
func (t *tree[K]) hang(lower *tree[K]) *tree[K] {
	if t.below == nil {
		t.below = map[K]*tree[K]{}
	}
	t.below[lower.piece[len(lower.piece)-1]] = lower
	return lower
}

// part leaves t the last n keys of its piece alone; one below it has all else.
func (t *tree[K]) part(n int) {
	n = len(t.piece) - n
	lower := &tree[K]{piece: t.piece[:n], isRow: t.isRow, below: t.below}
	*t = tree[K]{piece: slices.Clone(t.piece[n:])} // a long row that goes later leaves nothing here
	t.hang(lower)
}

// drop tells false of a row that isn't there.
func (t *tree[K]) drop(row []K) bool {
	at, above := t.find(row)
	if at == nil {
		return false
	}
	at.isRow = false
	if len(at.below) == 0 {
		above.cut(at)
		at = above
	}
	if at != t {
		at.join()
	}
	return true
}

// cut takes a tree away that is below t.
func (t *tree[K]) cut(lower *tree[K]) {
	delete(t.below, lower.piece[len(lower.piece)-1])
	if len(t.below) == 0 {
		t.below = nil
	}
}

// join takes up the only tree below t, if t is there for no other reason.
func (t *tree[K]) join() {
	if t.isRow || len(t.below) != 1 {
		return
	}
	for _, lower := range t.below {
		*t = tree[K]{piece: slices.Concat(lower.piece, t.piece), isRow: lower.isRow, below: lower.below}
	}
}

// rows goes through all rows, in no order, each in memory of its own.
func (t *tree[K]) rows() iter.Seq[[]K] {
	type place struct {
		at  *tree[K]
		row []K
	}
	return func(yield func([]K) bool) {
		left := []place{{at: t}}
		for len(left) > 0 {
			last := left[len(left)-1]
			left = left[:len(left)-1]
			for _, lower := range last.at.below {
				left = append(left, place{lower, slices.Concat(lower.piece, last.row)})
			}
			if last.at.isRow && !yield(last.row) {
				return
			}
		}
	}
}

// alike tells how many of the last keys of one and other are the same.
func alike[K comparable](one, other []K) int {
	n := 0
	for n < min(len(one), len(other)) && one[len(one)-1-n] == other[len(other)-1-n] {
		n++
	}
	return n
}
