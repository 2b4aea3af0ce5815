package mini

import (
	"iter"
	"math/bits"
)

// set: numbers of a kind, from 0 on, a bit each.
type set[T ~int] struct {
	words []uint64
	size  int
}

func (s *set[T]) has(n T) bool {
	return int(n>>6) < len(s.words) && s.words[n>>6]>>(n&63)&1 == 1
}

func (s *set[T]) put(n T) {
	if s.has(n) {
		return
	}
	for len(s.words) <= int(n>>6) {
		s.words = append(s.words, 0)
	}
	s.words[n>>6] |= 1 << (n & 63)
	s.size++
}

func (s *set[T]) drop(n T) {
	if s.has(n) {
		s.words[n>>6] &^= 1 << (n & 63)
		s.size--
	}
}

// empty keeps the room that the numbers had.
func (s *set[T]) empty() {
	clear(s.words)
	s.size = 0
}

// all goes through the numbers, rising.
func (s *set[T]) all() iter.Seq[T] {
	return func(yield func(T) bool) {
		for i, word := range s.words {
			for ; word != 0; word &= word - 1 {
				if !yield(T(i<<6 + bits.TrailingZeros64(word))) {
					return
				}
			}
		}
	}
}

// least tells the first of the numbers, false of none.
func (s *set[T]) least() (T, bool) {
	for n := range s.all() {
		return n, true
	}
	return 0, false
}

// take drops the first of the numbers and tells it, false of none.
func (s *set[T]) take() (T, bool) {
	n, ok := s.least()
	if ok {
		s.drop(n)
	}
	return n, ok
}
