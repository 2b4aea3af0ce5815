package classes

import (
	"math/rand"
	"slices"
	"testing"

	"hornbook/api"
	"hornbook/uniset"
)

// setsOf tells the sets of all classes.
func setsOf(c *Classes) [][]api.Range {
	var out [][]api.Range
	for k := range c.Len() {
		out = append(out, c.Set(k))
	}
	return out
}

func sameSets(a, b [][]api.Range) bool {
	return slices.EqualFunc(a, b, func(x, y []api.Range) bool { return slices.Equal(x, y) })
}

// checkFew asks that no two classes could be one: some set has one of them and
// not the other; and that none is empty.
func checkFew(t *testing.T, sets [][]api.Range) {
	t.Helper()
	c := Cut(sets)
	for k := range c.Len() {
		least, ok := uniset.Least(c.Set(k))
		if !ok {
			t.Fatalf("%v: class %d has nothing", sets, k)
		}
		for other := range k {
			first, _ := uniset.Least(c.Set(other))
			apart := false
			for _, l := range sets[:min(len(sets), 64)] {
				apart = apart || definedHas(l, least) != definedHas(l, first)
			}
			if !apart {
				t.Fatalf("%v: classes %d and %d could be one", sets, other, k)
			}
		}
	}
}

// checkWhole asks each set to be whole classes: so there are no fewer than
// there can be, either.
func checkWhole(t *testing.T, sets [][]api.Range) {
	t.Helper()
	c := Cut(sets)
	for i := range c.Sets() {
		var whole []api.Range
		for k := range c.Len() {
			if c.In(k, i) {
				whole = append(whole, c.Set(k)...)
			}
		}
		if !uniset.Same(whole, sets[i]) {
			t.Fatalf("%v: set %d is made of %v", sets, i, whole)
		}
	}
}

// checkStays asks that no set that tells nothing new makes another class.
func checkStays(t *testing.T, sets [][]api.Range) {
	t.Helper()
	cut := setsOf(Cut(sets))
	stays := func(what string, other [][]api.Range) {
		if got := setsOf(Cut(other)); !sameSets(got, cut) {
			t.Fatalf("%v: %s: %v, want %v", sets, what, got, cut)
		}
	}
	again := [][]api.Range{nil, rangesOf(0, top), rangesOf(0, 9, 10, top)}
	for i, l := range sets {
		again = append(again, l, uniset.Not(l), uniset.Union(l, sets[0]), uniset.Minus(sets[len(sets)-1], sets[i]))
	}
	stays("with sets made of them", append(slices.Clone(sets), again...))
	backward := slices.Clone(sets)
	slices.Reverse(backward)
	stays("in another order", backward)
	if len(cut) <= 64 {
		stays("cut by its classes", cut)
	}
	turned := slices.Clone(sets)
	for i, l := range turned {
		turned[i] = uniset.Not(l)
	}
	stays("by what the sets haven't", turned)
}

// P4.2
func TestFewClasses(t *testing.T) {
	for _, k := range knownCuts() {
		checkFew(t, k.sets)
		checkWhole(t, k.sets)
		checkStays(t, k.sets)
	}
	r := rand.New(rand.NewSource(42))
	for range 500 {
		for _, sets := range [][][]api.Range{wildSets(r, 8, 5), fairSets(r, 8, 4)} {
			checkFew(t, sets)
			checkWhole(t, sets)
			checkStays(t, sets)
		}
	}
	for range 30 {
		sets := fairSets(r, 80, 5)
		checkFew(t, sets)
		checkWhole(t, sets)
	}
}

// P4.2: the example.
func TestOneSet(t *testing.T) {
	for _, l := range [][]api.Range{rangesOf(0, 0), rangesOf(top, top), rangesOf(1, top), rangesOf(0, top-1), rangesOf(3, 4, 6, 7, 9, 9), rangesOf(0, 5, 7, top)} {
		if n := Cut([][]api.Range{l}).Len(); n != 2 {
			t.Errorf("%v: %d classes", l, n)
		}
	}
	for _, l := range [][]api.Range{nil, {}, rangesOf(0, top), rangesOf(5, top, 0, 4), rangesOf(5, 4), rangesOf(-1, top)} {
		if n := Cut([][]api.Range{l}).Len(); n != 1 {
			t.Errorf("%v: %d classes", l, n)
		}
	}
}
