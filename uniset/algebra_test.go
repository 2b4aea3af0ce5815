package uniset

import (
	"math"
	"math/rand"
	"slices"
	"testing"

	"hornbook/api"
)

// P3.2
func TestCallsOfKnownSets(t *testing.T) {
	all := rangesOf(0, top)
	for _, c := range []struct {
		a, b, union, inter, minus, not []api.Range
	}{
		{nil, nil, nil, nil, nil, all},
		{all, nil, all, nil, all, nil},
		{nil, all, all, nil, nil, all},
		{all, all, all, all, nil, nil},
		{rangesOf(1, 3), rangesOf(4, 5), rangesOf(1, 5), nil, rangesOf(1, 3), rangesOf(0, 0, 4, top)},
		{rangesOf(1, 3), rangesOf(5, 6), rangesOf(1, 3, 5, 6), nil, rangesOf(1, 3), rangesOf(0, 0, 4, top)},
		{rangesOf(1, 5), rangesOf(3, 8), rangesOf(1, 8), rangesOf(3, 5), rangesOf(1, 2), rangesOf(0, 0, 6, top)},
		{rangesOf(1, 9), rangesOf(3, 4, 6, 6), rangesOf(1, 9), rangesOf(3, 4, 6, 6), rangesOf(1, 2, 5, 5, 7, 9), rangesOf(0, 0, 10, top)},
		{rangesOf(3, 4, 6, 6), rangesOf(1, 9), rangesOf(1, 9), rangesOf(3, 4, 6, 6), nil, rangesOf(0, 2, 5, 5, 7, top)},
		{rangesOf(0, 0, 2, 2), rangesOf(1, 1), rangesOf(0, 2), nil, rangesOf(0, 0, 2, 2), rangesOf(1, 1, 3, top)},
		{rangesOf(0, 5), rangesOf(0, 0, 5, 5), rangesOf(0, 5), rangesOf(0, 0, 5, 5), rangesOf(1, 4), rangesOf(6, top)},
		{rangesOf(0, 0, top, top), rangesOf(top, top), rangesOf(0, 0, top, top), rangesOf(top, top), rangesOf(0, 0), rangesOf(1, top-1)},
		{rangesOf(0, top-1), rangesOf(top, top), all, nil, rangesOf(0, top-1), rangesOf(top, top)},
		{rangesOf(1, top), rangesOf(0, 0), all, nil, rangesOf(1, top), rangesOf(0, 0)},
	} {
		if got := Union(c.a, c.b); !slices.Equal(got, c.union) {
			t.Errorf("Union(%v, %v) = %v", c.a, c.b, got)
		}
		if got := Inter(c.a, c.b); !slices.Equal(got, c.inter) {
			t.Errorf("Inter(%v, %v) = %v", c.a, c.b, got)
		}
		if got := Minus(c.a, c.b); !slices.Equal(got, c.minus) {
			t.Errorf("Minus(%v, %v) = %v", c.a, c.b, got)
		}
		if got := Not(c.a); !slices.Equal(got, c.not) {
			t.Errorf("Not(%v) = %v", c.a, got)
		}
	}
}

// P3.2
func TestHas(t *testing.T) {
	set := rangesOf(0, 0, 5, 7, 9, 9, top-1, top)
	for _, p := range []int32{0, 5, 6, 7, 9, top - 1, top} {
		if !Has(set, p) {
			t.Errorf("Has at %d is false", p)
		}
	}
	for _, p := range []int32{math.MinInt32, -5, -1, 1, 4, 8, 10, 5000, top - 2, top + 1, math.MaxInt32} {
		if Has(set, p) {
			t.Errorf("Has at %d is true", p)
		}
	}
	for _, p := range []int32{math.MinInt32, -1, 0, 5, top, top + 1, math.MaxInt32} {
		if Has(nil, p) || Has(rangesOf(0, top), p) != (p >= 0 && p <= top) {
			t.Errorf("Has of nothing and of all, at %d", p)
		}
		if Has(rangesOf(math.MinInt32, math.MaxInt32, p, top+1, -1, p), p) {
			t.Errorf("Has of no ranges of code points, at %d", p)
		}
	}
}

// P3.2
func TestCountAndLeast(t *testing.T) {
	for _, c := range []struct {
		l     []api.Range
		count int
		least int32
		ok    bool
	}{
		{nil, 0, 0, false},
		{[]api.Range{}, 0, 0, false},
		{rangesOf(0, 0), 1, 0, true},
		{rangesOf(0, top), 0x110000, 0, true},
		{rangesOf(top, top), 1, top, true},
		{rangesOf(3, 5, 9, 9), 4, 3, true},
		{rangesOf(9, 9, 3, 5), 4, 3, true}, // no set: the first range isn't the least
		{rangesOf(3, 5, 4, 9, 4, 4), 7, 3, true},
		{rangesOf(0, top, 0, top), 0x110000, 0, true},
		{rangesOf(-7, 2, 8, 8), 1, 8, true}, // a range that is none counts for nothing, no part of it
		{rangesOf(8, 8, 5, 4), 1, 8, true},
		{rangesOf(1, top+1), 0, 0, false},
		{rangesOf(5, 4, -1, -1, math.MinInt32, math.MaxInt32, math.MaxInt32, math.MinInt32), 0, 0, false},
	} {
		if got := Count(c.l); got != c.count {
			t.Errorf("Count(%v) = %d, want %d", c.l, got, c.count)
		}
		if got, ok := Least(c.l); got != c.least || ok != c.ok {
			t.Errorf("Least(%v) = %d, %v; want %d, %v", c.l, got, ok, c.least, c.ok)
		}
	}
}

// P3.2
func TestSame(t *testing.T) {
	for _, c := range []struct {
		a, b []api.Range
		want bool
	}{
		{nil, nil, true},
		{nil, []api.Range{}, true},
		{rangesOf(1, 3), rangesOf(1, 3), true},
		{rangesOf(1, 3), rangesOf(1, 4), false},
		{rangesOf(1, 3), rangesOf(0, 3), false},
		{rangesOf(1, 3), rangesOf(1, 3, 5, 5), false},
		{rangesOf(1, 3), nil, false},
		{rangesOf(1, 5), rangesOf(4, 5, 1, 3), true}, // the set counts, not the list
		{rangesOf(1, 5, 2, 3), rangesOf(1, 5), true},
		{rangesOf(5, 4), nil, true},
		{rangesOf(-1, 5), rangesOf(0, 5), false},
		{rangesOf(-1, 5), rangesOf(7, top+1), true},
		{rangesOf(0, top+1), rangesOf(0, top), false},
	} {
		if Same(c.a, c.b) != c.want || Same(c.b, c.a) != c.want {
			t.Errorf("Same(%v, %v) isn't %v", c.a, c.b, c.want)
		}
	}
}

// subset tells the code points of few whose bits are in mask: as a list of one
// range each, falling, or as a set.
func subset(few []int32, mask int, asSet bool) []api.Range {
	var out []api.Range
	for i := len(few) - 1; i >= 0; i-- {
		if mask>>i&1 == 1 {
			out = append(out, api.Range{Lo: few[i], Hi: few[i]})
		}
	}
	if !asSet {
		return out
	}
	slices.Reverse(out)
	var set []api.Range
	for _, r := range out {
		if n := len(set); n > 0 && set[n-1].Hi+1 == r.Lo {
			set[n-1].Hi = r.Hi
		} else {
			set = append(set, r)
		}
	}
	return set
}

// P3.2: each two sets of code points at both ends of the space; and what is
// none of them is the same as all else.
func TestCallsOfEveryTwoSmallSets(t *testing.T) {
	few := []int32{0, 1, 2, 3, top - 2, top - 1, top}
	for x := range 1 << len(few) {
		for y := range 1 << len(few) {
			a, b := subset(few, x, true), subset(few, y, true)
			if !Is(a) || Same(a, b) != (x == y) {
				t.Fatalf("%v, %v", a, b)
			}
			checkCalls(t, a, b)
			checkCalls(t, subset(few, x, false), b)
			checkCalls(t, Not(a), b)
		}
	}
}

// P3.2: lists of no order, some of whose ranges are none, in every place.
func TestCallsOfNoSets(t *testing.T) {
	r := rand.New(rand.NewSource(33))
	for range 20000 {
		checkCalls(t, wildList(r, 5), wildList(r, 5))
	}
	for range 3000 {
		checkCalls(t, fairList(r, 15), fairList(r, 15))
		checkCalls(t, append(wildList(r, 3), fairList(r, 15)...), append(fairList(r, 15), wildList(r, 3)...))
	}
}

// P3.2: what is no set is as the set of those of its ranges that count.
func TestNoSetIsAsItsSet(t *testing.T) {
	r := rand.New(rand.NewSource(34))
	for range 3000 {
		a, b := wildList(r, 6), fairList(r, 6)
		right := slices.DeleteFunc(slices.Clone(a), func(x api.Range) bool { return !definedGood(x) })
		set, e := Norm(right)
		if e != api.OK || !Same(a, set) || !Same(set, a) || !slices.Equal(Union(a, nil), set) {
			t.Fatalf("%v isn't as %v", a, set)
		}
		alike := slices.Equal(Union(a, b), Union(set, b)) && slices.Equal(Union(b, a), Union(b, set)) &&
			slices.Equal(Inter(a, b), Inter(set, b)) && slices.Equal(Inter(b, a), Inter(b, set)) &&
			slices.Equal(Minus(a, b), Minus(set, b)) && slices.Equal(Minus(b, a), Minus(b, set)) &&
			slices.Equal(Not(a), Not(set)) && Count(a) == Count(set)
		if !alike {
			t.Fatalf("%v, beside %v, isn't as %v", a, b, set)
		}
	}
}

// P3.2: no call but Norm asks how many ranges there are.
func TestCallsOfManyRanges(t *testing.T) {
	even, odd := []api.Range{}, []api.Range{}
	for p := int32(0); p < top; p += 2 {
		even, odd = append(even, api.Range{Lo: p, Hi: p}), append(odd, api.Range{Lo: p + 1, Hi: p + 1})
	}
	if got := Union(even, odd); !slices.Equal(got, rangesOf(0, top)) {
		t.Errorf("Union: %d ranges", len(got))
	}
	if got := Inter(even, odd); len(got) != 0 {
		t.Errorf("Inter: %d ranges", len(got))
	}
	if got := Minus(even, odd); !slices.Equal(got, even) {
		t.Errorf("Minus: %d ranges", len(got))
	}
	if got := Not(even); !slices.Equal(got, odd) {
		t.Errorf("Not: %d ranges", len(got))
	}
	backward := slices.Clone(even)
	slices.Reverse(backward)
	if !Is(even) || Is(backward) || !Same(even, backward) || Same(even, odd) || Count(backward) != len(even) {
		t.Error("Is, Same, Count")
	}
	if least, ok := Least(backward); least != 0 || !ok || !Has(backward, 0) || Has(backward, 1) {
		t.Error("Least, Has")
	}
}
