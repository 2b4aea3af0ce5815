package uniset

import (
	"math"
	"math/rand"
	"slices"
	"testing"

	"hornbook/api"
)

// The chapter's sentence ahead of P3.1.
func TestIs(t *testing.T) {
	for _, c := range []struct {
		l    []api.Range
		want bool
	}{
		{nil, true},
		{[]api.Range{}, true},
		{rangesOf(0, 0), true},
		{rangesOf(0, top), true},
		{rangesOf(top, top), true},
		{rangesOf(1, 3, 5, 5), true}, // 4 lies between
		{rangesOf(0, 0, 2, 2, 4, top), true},
		{rangesOf(0, top-2, top, top), true},
		{rangesOf(1, 3, 4, 5), false}, // they touch
		{rangesOf(0, top-1, top, top), false},
		{rangesOf(1, 3, 3, 5), false},
		{rangesOf(1, 9, 3, 5), false},
		{rangesOf(1, 3, 1, 3), false},
		{rangesOf(5, 6, 1, 2), false},
		{rangesOf(1, 2, 8, 9, 5, 6), false},
		{rangesOf(2, 1), false},
		{rangesOf(-1, 1), false},
		{rangesOf(-3, -2), false},
		{rangesOf(1, top+1), false},
		{rangesOf(top+1, top+2), false},
		{rangesOf(0, top, math.MinInt32, math.MinInt32), false},
		{rangesOf(math.MinInt32, math.MaxInt32), false},
		{rangesOf(math.MaxInt32, math.MinInt32), false},
		{rangesOf(5, math.MaxInt32, math.MinInt32, 9), false}, // 1 above the first wraps round
		{rangesOf(1, 2, 9, 8), false},
		{rangesOf(1, 2, 4, 5, top, top+1), false},
	} {
		if got := Is(c.l); got != c.want {
			t.Errorf("Is(%v) = %v", c.l, got)
		}
	}
}

// Is asks of no number of ranges, other than Norm.
func TestIsOfManyRanges(t *testing.T) {
	l := apartRanges(300000)
	if !Is(l) {
		t.Error("Is of many ranges is false")
	}
	l[len(l)-1].Lo = l[len(l)-2].Hi + 1
	if Is(l) {
		t.Error("the last two touch, and Is is true")
	}
}

// apartRanges tells n ranges of two code points, with one between each two.
func apartRanges(n int) []api.Range {
	var out []api.Range
	for i := range int32(n) {
		out = append(out, api.Range{Lo: 3 * i, Hi: 3*i + 1})
	}
	return out
}

// P3.1
func TestNorm(t *testing.T) {
	for _, c := range []struct {
		l, want []api.Range
	}{
		{nil, nil},
		{[]api.Range{}, nil},
		{rangesOf(1, 3, 4, 5), rangesOf(1, 5)}, // the example's
		{rangesOf(4, 5, 1, 3), rangesOf(1, 5)},
		{rangesOf(1, 3, 5, 5), rangesOf(1, 3, 5, 5)}, // apart by one code point
		{rangesOf(5, 5, 1, 3), rangesOf(1, 3, 5, 5)},
		{rangesOf(1, 3, 3, 9), rangesOf(1, 9)},
		{rangesOf(1, 9, 3, 4, 9, 9, 1, 1), rangesOf(1, 9)},
		{rangesOf(1, 9, 3, 4, 6, 12), rangesOf(1, 12)}, // the widest end counts, not the last
		{rangesOf(7, 7, 7, 7, 7, 7), rangesOf(7, 7)},
		{rangesOf(1, 1, 1, 5, 1, 3), rangesOf(1, 5)},
		{rangesOf(9, 9, 5, 5, 7, 7, 1, 1, 3, 3), rangesOf(1, 1, 3, 3, 5, 5, 7, 7, 9, 9)},
		{rangesOf(5, 5, 3, 3, 4, 4), rangesOf(3, 5)}, // the last fills the gap
		{rangesOf(0, 0), rangesOf(0, 0)},
		{rangesOf(top, top, 0, 0), rangesOf(0, 0, top, top)},
		{rangesOf(1, top, 0, 0), rangesOf(0, top)},
		{rangesOf(0, top, 0, top, 5, 9), rangesOf(0, top)},
		{rangesOf(0xD800, 0xDFFF, 0xE000, 0xE000), rangesOf(0xD800, 0xE000)}, // surrogates are code points
	} {
		got, e := Norm(c.l)
		if e != api.OK || !slices.Equal(got, c.want) {
			t.Errorf("Norm(%v) = %v, %v; want %v", c.l, got, e, c.want)
		}
	}
}

// P3.1: a range that is none, wherever it stands, and whatever else is there.
func TestNormOfNoRange(t *testing.T) {
	for _, bad := range rangesOf(
		-1, -1, -1, 0, -1, top, math.MinInt32, 5, math.MinInt32, math.MaxInt32, math.MinInt32, math.MinInt32,
		0, top+1, top, top+1, top+1, top+1, 5, math.MaxInt32, math.MaxInt32, math.MaxInt32,
		1, 0, 5, 4, top, 0, top, top-1, math.MaxInt32, math.MinInt32, 3, math.MinInt32, 0, -1,
	) {
		for _, others := range [][]api.Range{nil, rangesOf(1, 3, 5, 6), rangesOf(0, top), apartRanges(api.MaxRanges)} {
			for at := range len(others) + 1 {
				l := slices.Insert(slices.Clone(others), at, bad)
				if got, e := Norm(l); e != api.ErrSet || len(got) != 0 {
					t.Fatalf("%v at %d: %v, %v", bad, at, got, e)
				}
			}
		}
	}
}

// P3.1: it is the set's ranges that are counted, not the list's.
func TestNormOfTheMostRanges(t *testing.T) {
	r := rand.New(rand.NewSource(31))
	for _, n := range []int{api.MaxRanges - 1, api.MaxRanges, api.MaxRanges + 1, 2 * api.MaxRanges, 100000} {
		set := apartRanges(n)
		l := append(slices.Clone(set), set...) // each of them twice
		r.Shuffle(len(l), func(i, j int) { l[i], l[j] = l[j], l[i] })
		for _, list := range [][]api.Range{set, l} {
			got, e := Norm(list)
			if n <= api.MaxRanges && (e != api.OK || !slices.Equal(got, set)) {
				t.Errorf("%d ranges: %v, %v", n, got, e)
			}
			if n > api.MaxRanges && (e != api.ErrSet || len(got) != 0) {
				t.Errorf("%d ranges: %v, %v", n, got, e)
			}
		}
	}
}

// P3.1: more ranges than a set may have, that join to few.
func TestNormOfManyThatJoin(t *testing.T) {
	set := apartRanges(api.MaxRanges + 1)
	joining := append(slices.Clone(set), api.Range{Lo: 5, Hi: 5}) // the second and the third become one
	if got, e := Norm(joining); e != api.OK || len(got) != api.MaxRanges || !definedIs(got) {
		t.Errorf("one gap filled: %d ranges, %v", len(got), e)
	}
	var ones []api.Range
	for p := range int32(5000) {
		ones = append(ones, api.Range{Lo: 4999 - p, Hi: 4999 - p})
	}
	if got, e := Norm(ones); e != api.OK || !slices.Equal(got, rangesOf(0, 4999)) {
		t.Errorf("5000 code points beside one another: %v, %v", got, e)
	}
	whole := append(apartRanges(1000), api.Range{Lo: 0, Hi: top})
	if got, e := Norm(whole); e != api.OK || !slices.Equal(got, rangesOf(0, top)) {
		t.Errorf("1000 ranges and all: %v, %v", got, e)
	}
}

// P3.1: the order and the form of the list don't matter.
func TestNormInAnyOrder(t *testing.T) {
	r := rand.New(rand.NewSource(32))
	for range 500 {
		l := fairList(r, 12)
		want, e := Norm(l)
		if e != api.OK {
			t.Fatalf("Norm(%v): %v", l, e)
		}
		r.Shuffle(len(l), func(i, j int) { l[i], l[j] = l[j], l[i] })
		if got, _ := Norm(l); !slices.Equal(got, want) {
			t.Fatalf("Norm(%v) = %v, want %v", l, got, want)
		}
		if again, e := Norm(want); e != api.OK || !slices.Equal(again, want) {
			t.Fatalf("a set isn't its own: %v became %v, %v", want, again, e)
		}
		if Is(l) != slices.Equal(l, want) {
			t.Fatalf("Is(%v) = %v", l, Is(l))
		}
	}
}
