package classes

import (
	"math"
	"math/rand"
	"slices"
	"testing"

	"hornbook/api"
	"hornbook/uniset"
)

const top = api.MaxRune

// rangesOf tells the ranges whose ends, Lo and Hi by turns, are handed over.
func rangesOf(ends ...int32) []api.Range {
	var out []api.Range
	for i := 0; i+1 < len(ends); i += 2 {
		out = append(out, api.Range{Lo: ends[i], Hi: ends[i+1]})
	}
	return out
}

// definedHas: whether one of the ranges of l that count has p.
func definedHas(l []api.Range, p int32) bool {
	for _, r := range l {
		if r.Lo >= 0 && r.Hi <= top && r.Lo <= p && p <= r.Hi {
			return true
		}
	}
	return false
}

// definedRow: by the first 64 sets, whether they have p.
func definedRow(sets [][]api.Range, p int32) (row [64]bool) {
	for i, l := range sets {
		if i < 64 {
			row[i] = definedHas(l, p)
		}
	}
	return row
}

// pointsOf tells, rising, code points enough: the first one of each piece that
// the sets cut is among them.
func pointsOf(sets [][]api.Range) []int32 {
	points := []int64{0, 1, top - 1, top}
	for _, l := range sets {
		for _, r := range l {
			for by := int64(-1); by <= 1; by++ {
				points = append(points, int64(r.Lo)+by, int64(r.Hi)+by)
			}
		}
	}
	var out []int32
	for _, p := range points {
		if p >= 0 && p <= top {
			out = append(out, int32(p))
		}
	}
	slices.Sort(out)
	return slices.Compact(out)
}

// check holds every call of the classes of sets against the definition.
func check(t *testing.T, sets [][]api.Range) {
	t.Helper()
	c := Cut(sets)
	counted := min(len(sets), 64)
	numbers := map[[64]bool]int{}
	rows := [][64]bool{}
	for _, p := range pointsOf(sets) {
		row := definedRow(sets, p)
		if _, known := numbers[row]; !known {
			numbers[row] = len(rows)
			rows = append(rows, row)
		}
		if c.Of(p) != numbers[row] {
			t.Fatalf("%v: Of(%d) = %d, want %d", sets, p, c.Of(p), numbers[row])
		}
	}
	if c.Len() != len(rows) || c.Sets() != counted {
		t.Fatalf("%v: %d classes of %d sets, want %d of %d", sets, c.Len(), c.Sets(), len(rows), counted)
	}
	for k, row := range rows {
		for i := range 64 {
			if c.In(k, i) != row[i] {
				t.Fatalf("%v: In(%d, %d) = %v", sets, k, i, c.In(k, i))
			}
		}
	}
	checkSets(t, c, pointsOf(sets))
	checkOthers(t, c)
}

// checkSets asks the sets of classes to be sets, in the order of their least
// code points, each code point in that of its class alone.
func checkSets(t *testing.T, c *Classes, points []int32) {
	t.Helper()
	count, last := 0, int32(-1)
	for k := range c.Len() {
		set := c.Set(k)
		least, ok := uniset.Least(set)
		if !uniset.Is(set) || !ok || least <= last {
			t.Fatalf("Set(%d) = %v, behind %d", k, set, last)
		}
		last = least
		count += uniset.Count(set)
		for _, p := range points {
			if definedHas(set, p) != (c.Of(p) == k) {
				t.Fatalf("Set(%d) = %v, and Of(%d) = %d", k, set, p, c.Of(p))
			}
		}
	}
	if count != top+1 {
		t.Fatalf("the classes have %d code points", count)
	}
}

// checkOthers asks of what is no code point, no class, no set.
func checkOthers(t *testing.T, c *Classes) {
	t.Helper()
	for _, p := range []int32{math.MinInt32, -2, -1, top + 1, top + 2, math.MaxInt32} {
		if c.Of(p) != -1 {
			t.Fatalf("Of(%d) = %d", p, c.Of(p))
		}
	}
	for _, k := range []int{math.MinInt, -2, -1, c.Len(), c.Len() + 1, math.MaxInt} {
		if len(c.Set(k)) != 0 {
			t.Fatalf("Set(%d) of %d = %v", k, c.Len(), c.Set(k))
		}
		for _, s := range []int{math.MinInt, -1, 0, 1, c.Sets() - 1, c.Sets(), math.MaxInt} {
			if c.In(k, s) {
				t.Fatalf("In(%d, %d) of %d classes", k, s, c.Len())
			}
		}
	}
	for k := range c.Len() {
		for _, s := range []int{math.MinInt, -64, -2, -1, c.Sets(), c.Sets() + 1, 63, 64, 65, 128, math.MaxInt} {
			if (s < 0 || s >= c.Sets()) && c.In(k, s) {
				t.Fatalf("In(%d, %d) of %d sets", k, s, c.Sets())
			}
		}
	}
}

// wildEnds are numbers at which a range may begin or end rightly or wrongly.
var wildEnds = []int32{math.MinInt32, math.MinInt32 + 1, -2, -1, 0, 1, 2, 3, 4, 5, top - 3, top - 2, top - 1, top, top + 1, math.MaxInt32 - 1, math.MaxInt32}

// wildSets tells lists that are in no order, some of their ranges none.
func wildSets(r *rand.Rand, mostSets, mostRanges int) [][]api.Range {
	sets := make([][]api.Range, r.Intn(mostSets+1))
	for i := range sets {
		for range r.Intn(mostRanges + 1) {
			sets[i] = append(sets[i], api.Range{Lo: wildEnds[r.Intn(len(wildEnds))], Hi: wildEnds[r.Intn(len(wildEnds))]})
		}
	}
	return sets
}

// fairSets tells lists of ranges of code points in no order, near to one
// another at both ends of the code space, some lists turned into sets.
func fairSets(r *rand.Rand, mostSets, mostRanges int) [][]api.Range {
	sets := make([][]api.Range, r.Intn(mostSets+1))
	for i := range sets {
		for range r.Intn(mostRanges + 1) {
			lo := int32(r.Intn(30))
			if r.Intn(3) == 0 {
				lo = top - lo
			}
			sets[i] = append(sets[i], api.Range{Lo: lo, Hi: min(lo+int32(r.Intn(6)), top)})
		}
		switch r.Intn(4) {
		case 0:
			sets[i] = uniset.Not(sets[i])
		case 1:
			sets[i] = uniset.Union(sets[i], nil)
		}
	}
	return sets
}
