package uniset

import (
	"iter"
	"math"
	"slices"
	"testing"
)

// spansIn tells the numbers from lo to hi that has tells, as a set.
func spansIn[N integer](lo, hi N, has func(N) bool) spans[N] {
	var out spans[N]
	open := false
	for n := lo; ; n++ {
		switch last := len(out) - 1; {
		case !has(n):
			open = false
		case open:
			out[last].hi = n
		default:
			out, open = append(out, span[N]{n, n}), true
		}
		if n == hi {
			return out
		}
	}
}

// checkSpans holds what is told of a and b against their numbers, in a space
// that may be all that a type has.
func checkSpans[N integer](t *testing.T, space span[N], a, b spans[N]) {
	t.Helper()
	has := func(l spans[N], n N) bool {
		return slices.ContainsFunc(l, func(s span[N]) bool { return s.lo <= n && n <= s.hi })
	}
	both := slices.Collect(a.common(b))
	if want := spansIn(space.lo, space.hi, func(n N) bool { return has(a, n) && has(b, n) }); !slices.Equal(both, want) {
		t.Fatalf("common of %v and %v: %v", a, b, both)
	}
	others := slices.Collect(a.gaps(space))
	if want := spansIn(space.lo, space.hi, func(n N) bool { return !has(a, n) }); !slices.Equal(others, want) {
		t.Fatalf("gaps of %v: %v", a, others)
	}
	some := joined(slices.Values(slices.Concat(b, a)))
	if want := spansIn(space.lo, space.hi, func(n N) bool { return has(a, n) || has(b, n) }); !slices.Equal(some, want) {
		t.Fatalf("joined of %v and %v: %v", a, b, some)
	}
}

// checkKind asks sets of numbers of one type, at both ends of it.
func checkKind[N integer](t *testing.T, space span[N]) {
	t.Helper()
	edge := func(n N) int { // the numbers that masks are about: three at each end
		switch {
		case n-space.lo < 3:
			return int(n - space.lo)
		case space.hi-n < 3:
			return int(3 + space.hi - n)
		}
		return 6
	}
	for x := range 1 << 7 {
		for y := range 1 << 7 {
			a := spansIn(space.lo, space.hi, func(n N) bool { return x>>edge(n)&1 == 1 })
			b := spansIn(space.lo, space.hi, func(n N) bool { return y>>edge(n)&1 == 1 })
			checkSpans(t, space, a, b)
		}
	}
}

type named int8

// Ways: a generic type of ranges: of any integers, up to the ends of a type,
// where there is no number above or below.
func TestSpansOfAnyIntegers(t *testing.T) {
	checkKind(t, span[uint8]{0, 12})
	checkKind(t, span[uint8]{243, math.MaxUint8})
	checkKind(t, span[int16]{-5, 5})
	checkKind(t, span[int64]{math.MaxInt64 - 8, math.MaxInt64})
	checkKind(t, span[int32]{math.MinInt32, math.MinInt32 + 8})
	checkKind(t, span[uint]{0, 8})
	whole := span[named]{math.MinInt8, math.MaxInt8}
	for _, l := range []spans[named]{nil, {whole}, {{-128, -128}}, {{127, 127}}, {{-128, -128}, {127, 127}}, {{-127, 126}}, {{-128, 126}}, {{-127, 127}}} {
		for _, other := range []spans[named]{nil, {whole}, {{-128, 0}}, {{0, 127}}, {{-128, -128}, {127, 127}}} {
			checkSpans(t, whole, l, other)
		}
	}
}

// checkAnew leaves an iterator at every place, and goes through it within.
func checkAnew[T comparable](t *testing.T, what string, all iter.Seq[T], many int) {
	t.Helper()
	whole := slices.Collect(all)
	if len(whole) != many {
		t.Fatalf("%s: %v", what, whole)
	}
	for left := range whole {
		seen := 0
		for s := range all {
			if s != whole[seen] || !slices.Equal(slices.Collect(all), whole) {
				t.Errorf("%s, at %d: %v", what, seen, s)
			}
			if seen++; seen > left {
				break
			}
		}
	}
}

// Rule 7: an iterator may be left anywhere, and gone through again, also while
// it is being gone through.
func TestIteratorsAnewAndWithin(t *testing.T) {
	a, b := spans[int32]{{1, 3}, {5, 5}, {9, 20}}, spans[int32]{{2, 5}, {8, 10}, {12, 12}, {30, 31}}
	checkAnew(t, "gaps", a.gaps(codeSpace()), 4)
	checkAnew(t, "common", a.common(b), 4)
	checkAnew(t, "good spans", goodSpans(rangesOf(5, 6, 3, 2, 1, 9), nil, rangesOf(-1, 0, 4, 4, 4, 4)), 4)
	checkAnew(t, "gaps of all", spans[int32]{codeSpace()}.gaps(codeSpace()), 0)
	checkAnew(t, "common with nothing", a.common(nil), 0)
	checkAnew(t, "good spans of nothing", goodSpans(), 0)
}
