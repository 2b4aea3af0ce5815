package classes

import (
	"slices"
	"testing"

	"hornbook/api"
)

// end: a place, and the sets that begin or have ended there.
type end struct {
	at     int32
	turned membership
}

func endsOf(sets [][]api.Range) []end {
	var out []end
	for at, turned := range ends(sets) {
		out = append(out, end{at, turned})
	}
	return out
}

// P4.1: the ends rise, and one at which nothing changes is none.
func TestEnds(t *testing.T) {
	for _, c := range []struct {
		sets [][]api.Range
		want []end
	}{
		{nil, nil},
		{[][]api.Range{nil, rangesOf(5, 4)}, nil},
		{[][]api.Range{rangesOf(0, top)}, []end{{0, 1}, {top + 1, 1}}},
		{[][]api.Range{rangesOf(5, 7), rangesOf(8, 9)}, []end{{5, 1}, {8, 3}, {10, 2}}},
		{[][]api.Range{rangesOf(8, 9, 5, 7)}, []end{{5, 1}, {10, 1}}},
		{[][]api.Range{rangesOf(5, 7), rangesOf(5, 7)}, []end{{5, 3}, {8, 3}}},
	} {
		if got := endsOf(c.sets); !slices.Equal(got, c.want) {
			t.Errorf("%v: %v, want %v", c.sets, got, c.want)
		}
	}
}

// Rule 7: what is gone through may be left at any point, and gone through
// again.
func TestCutsLeftEarly(t *testing.T) {
	for _, k := range knownCuts() {
		through := cuts(k.sets)
		var all []api.Range
		for r := range through {
			all = append(all, r)
		}
		for n := 1; n <= len(all); n++ {
			var some []api.Range
			for r := range through {
				some = append(some, r)
				if len(some) == n {
					break
				}
			}
			if !slices.Equal(some, all[:n]) {
				t.Errorf("%s: %v, then %v", k.name, all, some)
			}
		}
		whole := endsOf(k.sets)
		for n := 1; n <= len(whole); n++ {
			left := 0
			for range ends(k.sets) {
				if left++; left == n {
					break
				}
			}
			if left != n {
				t.Errorf("%s: left behind %d ends, not %d", k.name, left, n)
			}
		}
	}
}
