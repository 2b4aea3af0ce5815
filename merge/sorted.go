package merge

import (
	"cmp"
	"iter"
	"maps"
	"slices"
)

// sorted: values by their keys, gone through by rising keys. One that was never
// told anything has none. The order is made when it is gone through: many can
// come and go ahead of that, and few are left.
type sorted[K cmp.Ordered, V any] struct {
	values map[K]V
}

// put makes value the one of key; another that was there goes.
func (s *sorted[K, V]) put(key K, value V) {
	if s.values == nil {
		s.values = map[K]V{}
	}
	s.values[key] = value
}

func (s *sorted[K, V]) drop(key K) { delete(s.values, key) }

func (s *sorted[K, V]) size() int { return len(s.values) }

// rising goes through all, each key above the one ahead of it.
func (s *sorted[K, V]) rising() iter.Seq2[K, V] {
	return func(yield func(K, V) bool) {
		for _, key := range slices.Sorted(maps.Keys(s.values)) {
			if !yield(key, s.values[key]) {
				return
			}
		}
	}
}
