package mini

import (
	"maps"
	"math/rand"
	"slices"
	"testing"
)

// is holds a set against the numbers that are in it.
func is(t *testing.T, s *set[int], want map[int]bool) {
	t.Helper()
	rising := slices.Sorted(maps.Keys(want))
	if got := slices.Collect(s.all()); !slices.Equal(got, rising) || s.size != len(want) {
		t.Fatalf("%v, %d of them, want %v", got, s.size, rising)
	}
	for n := range 300 {
		if s.has(n) != want[n] {
			t.Fatalf("has(%d) = %v", n, s.has(n))
		}
	}
	first, ok := s.least()
	if ok != (len(want) > 0) || ok && first != rising[0] || !ok && first != 0 {
		t.Fatalf("least() = %d, %v", first, ok)
	}
}

// A set has what was put and not dropped or taken, whether it was in it or not.
func TestSet(t *testing.T) {
	source := rand.New(rand.NewSource(3))
	for range 200 {
		var s set[int]
		want := map[int]bool{}
		top := 1 + source.Intn(260)
		for range 40 {
			n := source.Intn(top)
			switch source.Intn(7) {
			case 0, 1, 2, 3:
				s.put(n)
				want[n] = true
			case 4:
				s.drop(n)
				delete(want, n)
			case 5:
				first, ok := s.least()
				if got, more := s.take(); got != first || more != ok {
					t.Fatalf("take() = %d, %v, want %d", got, more, first)
				}
				delete(want, first)
			default:
				if source.Intn(8) == 0 {
					s.empty()
					clear(want)
				}
			}
			is(t, &s, want)
		}
	}
}

// Numbers may be left at any point, and gone through within one another.
func TestSetIsLeft(t *testing.T) {
	var s set[group]
	for _, n := range []group{0, 5, 63, 64, 127, 128} {
		s.put(n)
	}
	for most := range s.size {
		var got []group
		for n := range s.all() {
			if len(got) == most {
				break
			}
			got = append(got, n)
			for inner := range s.all() {
				if inner == n {
					break
				}
			}
		}
		if !slices.Equal(got, []group{0, 5, 63, 64, 127, 128}[:most]) {
			t.Errorf("%v, left behind %d", got, most)
		}
	}
}
