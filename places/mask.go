package places

import (
	"iter"
	"math/bits"
)

// mask: a set of places, bit by bit; in a state the beginning, too.
type mask uint64

// beginning: the bit of a state in which nothing has been read. No place has
// its number: there are fewer of them.
const beginning mask = 1 << 63

// only tells the mask of one place.
func only(i int) mask { return 1 << i }

// places goes through the places of m, rising; the beginning is none.
func (m mask) places() iter.Seq[int] {
	return func(yield func(int) bool) {
		for rest := m &^ beginning; rest != 0; rest &= rest - 1 {
			if !yield(bits.TrailingZeros64(uint64(rest))) {
				return
			}
		}
	}
}
