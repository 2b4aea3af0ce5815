package uniset

import (
	"math"
	"math/rand"
	"testing"

	"hornbook/api"
)

const top = api.MaxRune

// rangesOf tells the ranges whose ends, Lo and Hi by turns, are handed over.
func rangesOf(ends ...int32) []api.Range {
	var out []api.Range
	for i := 0; i+1 < len(ends); i += 2 {
		out = append(out, api.Range{Lo: ends[i], Hi: ends[i+1]})
	}
	return out
}

func definedGood(r api.Range) bool { return r.Lo >= 0 && r.Lo <= r.Hi && r.Hi <= top }

// definedHas: whether one of the ranges of l that count has p.
func definedHas(l []api.Range, p int64) bool {
	for _, r := range l {
		if definedGood(r) && int64(r.Lo) <= p && p <= int64(r.Hi) {
			return true
		}
	}
	return false
}

// definedIs is the chapter's sentence of what a set is, word by word.
func definedIs(l []api.Range) bool {
	for i, r := range l {
		if !definedGood(r) {
			return false
		}
		if i > 0 && int64(r.Lo)-int64(l[i-1].Hi) < 2 {
			return false
		}
	}
	return true
}

// pointsOf tells points enough to tell sets of these ends from one another: no
// set changes between two neighbours of them.
func pointsOf(lists ...[]api.Range) []int64 {
	points := []int64{math.MinInt32, -1, 0, 1, top - 1, top, top + 1, math.MaxInt32}
	for _, l := range lists {
		for _, r := range l {
			for by := int64(-1); by <= 1; by++ {
				points = append(points, int64(r.Lo)+by, int64(r.Hi)+by)
			}
		}
	}
	return points
}

// checkSet asks got to be a set, and to have what wanted tells.
func checkSet(t *testing.T, what string, got []api.Range, points []int64, wanted func(int64) bool) {
	t.Helper()
	if !definedIs(got) {
		t.Fatalf("%s = %v: no set", what, got)
	}
	for _, list := range [][]int64{points, pointsOf(got)} {
		for _, p := range list {
			if definedHas(got, p) != wanted(p) {
				t.Fatalf("%s = %v: wrong at %d", what, got, p)
			}
		}
	}
}

// checkCalls holds every call against the definition, of a and b.
func checkCalls(t *testing.T, a, b []api.Range) {
	t.Helper()
	points := pointsOf(a, b)
	inA := func(p int64) bool { return definedHas(a, p) }
	inB := func(p int64) bool { return definedHas(b, p) }
	isPoint := func(p int64) bool { return p >= 0 && p <= top }
	checkSet(t, "Union", Union(a, b), points, func(p int64) bool { return inA(p) || inB(p) })
	checkSet(t, "Inter", Inter(a, b), points, func(p int64) bool { return inA(p) && inB(p) })
	checkSet(t, "Minus", Minus(a, b), points, func(p int64) bool { return inA(p) && !inB(p) })
	checkSet(t, "Not", Not(a), points, func(p int64) bool { return isPoint(p) && !inA(p) })
	same := true
	for _, p := range points {
		same = same && inA(p) == inB(p)
		if p >= math.MinInt32 && p <= math.MaxInt32 && Has(a, int32(p)) != inA(p) {
			t.Fatalf("Has(%v, %d) = %v", a, p, Has(a, int32(p)))
		}
	}
	if Same(a, b) != same {
		t.Fatalf("Same(%v, %v) = %v", a, b, Same(a, b))
	}
	checkOne(t, a)
}

// checkOne holds the calls of one list against the definition.
func checkOne(t *testing.T, a []api.Range) {
	t.Helper()
	if Is(a) != definedIs(a) {
		t.Fatalf("Is(%v) = %v", a, Is(a))
	}
	set := Union(a, nil) // held against the definition by checkCalls
	count := 0
	for _, r := range set {
		count += int(r.Hi) - int(r.Lo) + 1
	}
	if Count(a) != count {
		t.Fatalf("Count(%v) = %d, want %d", a, Count(a), count)
	}
	least, ok := Least(a)
	if ok != (len(set) > 0) || ok && least != set[0].Lo || !ok && least != 0 {
		t.Fatalf("Least(%v) = %d, %v", a, least, ok)
	}
	good := true
	for _, r := range a {
		good = good && definedGood(r)
	}
	norm, e := Norm(a)
	if good && len(set) <= api.MaxRanges {
		checkSet(t, "Norm", norm, pointsOf(a), func(p int64) bool { return definedHas(a, p) })
		if e != api.OK {
			t.Fatalf("Norm(%v): %v", a, e)
		}
	} else if e != api.ErrSet || len(norm) != 0 {
		t.Fatalf("Norm(%v) = %v, %v", a, norm, e)
	}
}

// wildEnds are numbers at which a range may begin or end rightly or wrongly.
var wildEnds = []int32{math.MinInt32, math.MinInt32 + 1, -2, -1, 0, 1, 2, 3, 4, 5, top - 3, top - 2, top - 1, top, top + 1, math.MaxInt32 - 1, math.MaxInt32}

// wildList tells ranges that are in no order, some of them none.
func wildList(r *rand.Rand, most int) []api.Range {
	var out []api.Range
	for range r.Intn(most + 1) {
		out = append(out, api.Range{Lo: wildEnds[r.Intn(len(wildEnds))], Hi: wildEnds[r.Intn(len(wildEnds))]})
	}
	return out
}

// fairList tells ranges of code points in no order, near to one another.
func fairList(r *rand.Rand, most int) []api.Range {
	var out []api.Range
	for range r.Intn(most + 1) {
		lo := int32(r.Intn(4 * most))
		if r.Intn(3) == 0 {
			lo = top - lo
		}
		out = append(out, api.Range{Lo: lo, Hi: min(lo+int32(r.Intn(4)), top)})
	}
	return out
}
