package uniset

import (
	"math/rand"
	"slices"
	"testing"

	"hornbook/api"
)

// calls tells every call that answers a list, of two lists.
func calls() map[string]func(a, b []api.Range) []api.Range {
	return map[string]func(a, b []api.Range) []api.Range{
		"Norm":  func(a, _ []api.Range) []api.Range { l, _ := Norm(a); return l },
		"Union": Union,
		"Inter": Inter,
		"Minus": Minus,
		"Not":   func(a, _ []api.Range) []api.Range { return Not(a) },
	}
}

// askAll asks what answers no list.
func askAll(a, b []api.Range) (bool, bool, int, bool, int32) {
	least, _ := Least(a)
	return Is(a), Has(a, 5), Count(a), Same(a, b), least
}

// fill writes over all of a list's memory, its spare room too.
func fill(l []api.Range) {
	l = l[:cap(l)]
	for i := range l {
		l[i] = api.Range{Lo: -9, Hi: -9}
	}
}

// samples tells pairs of lists: sets, lists in no order, and lists with ranges
// that are none.
func samples() [][2][]api.Range {
	r := rand.New(rand.NewSource(37))
	out := [][2][]api.Range{
		{rangesOf(1, 3, 5, 6), rangesOf(4, 4, 9, top)},
		{rangesOf(1, 3), nil},
		{nil, rangesOf(0, top)},
		{rangesOf(9, 9, 1, 3, 2, 7), rangesOf(5, 4, 3, 3)},
	}
	for range 100 {
		out = append(out, [2][]api.Range{wildList(r, 6), fairList(r, 6)})
	}
	return out
}

// behind lays some ranges behind a list, in its spare room.
func behind(l []api.Range) []api.Range {
	return append(slices.Clone(l), rangesOf(5, 5, 4, 4, -1, 77, 0, top)...)
}

// Rule 3: what is handed in is not changed, spare room included, neither by
// the call nor by what is done with its answer; what lies behind a list is
// none of it.
func TestArgumentsAreNotChanged(t *testing.T) {
	for _, s := range samples() {
		a, b := behind(s[0]), behind(s[1])
		aBefore, bBefore := slices.Clone(a), slices.Clone(b)
		for name, call := range calls() {
			got := call(a[:len(s[0])], b[:len(s[1])])
			if want := call(s[0], s[1]); !slices.Equal(got, want) {
				t.Fatalf("%s(%v, %v) = %v, and %v with spare room", name, s[0], s[1], want, got)
			}
			fill(got)
			if !slices.Equal(a, aBefore) || !slices.Equal(b, bBefore) {
				t.Fatalf("%s changed what it was handed: %v, %v", name, a, b)
			}
		}
		is, has, count, same, least := askAll(a[:len(s[0])], b[:len(s[1])])
		wantIs, wantHas, wantCount, wantSame, wantLeast := askAll(s[0], s[1])
		if is != wantIs || has != wantHas || count != wantCount || same != wantSame || least != wantLeast {
			t.Fatalf("%v, %v: otherwise with spare room", s[0], s[1])
		}
		if !slices.Equal(a, aBefore) || !slices.Equal(b, bBefore) {
			t.Fatalf("a question changed what it was handed: %v, %v", a, b)
		}
	}
}

// Rule 3: what is handed in is not kept, and no answer is touched by what is
// done with another.
func TestAnswersAreNewMemory(t *testing.T) {
	for _, s := range samples() {
		for name, call := range calls() {
			a, b := slices.Clone(s[0]), slices.Clone(s[1])
			one, two := call(a, b), call(a, b)
			want := slices.Clone(one)
			if !slices.Equal(one, two) {
				t.Fatalf("%s(%v, %v) = %v, then %v", name, a, b, one, two)
			}
			fill(a)
			fill(b)
			fill(two)
			fill(call(s[1], s[0]))
			if !slices.Equal(one, want) {
				t.Fatalf("%s(%v, %v): the answer became %v", name, s[0], s[1], one)
			}
		}
	}
}

// Rule 3: two arguments may be pieces of one list.
func TestArgumentsThatShareMemory(t *testing.T) {
	l := rangesOf(7, 9, 1, 3, 4, 4, 12, 12, -1, 5)
	for from := range len(l) {
		for to := from; to <= len(l); to++ {
			for name, call := range calls() {
				got := call(l[:to], l[from:])
				want := call(slices.Clone(l[:to]), slices.Clone(l[from:]))
				if !slices.Equal(got, want) {
					t.Errorf("%s, of pieces to %d and from %d: %v, want %v", name, to, from, got, want)
				}
			}
		}
	}
}

// Rule 2: a nil list and an empty one are the same.
func TestNilIsEmpty(t *testing.T) {
	nones := [][]api.Range{nil, {}, rangesOf(1, 3)[:0]}
	all, set := rangesOf(0, top), rangesOf(1, 3)
	for _, none := range nones {
		norm, e := Norm(none)
		if e != api.OK || len(norm) != 0 || !Is(none) || Has(none, 0) || Count(none) != 0 {
			t.Error("Norm, Is, Has, Count of nothing")
		}
		if least, ok := Least(none); least != 0 || ok {
			t.Errorf("Least of nothing = %d, %v", least, ok)
		}
		if !slices.Equal(Not(none), all) || len(Not(all)) != 0 {
			t.Error("Not of nothing, of all")
		}
		if !slices.Equal(Union(none, set), set) || !slices.Equal(Union(set, none), set) || !slices.Equal(Minus(set, none), set) {
			t.Error("a set and nothing")
		}
		if len(Inter(none, set)) != 0 || len(Inter(set, none)) != 0 || len(Minus(none, set)) != 0 {
			t.Error("nothing and a set")
		}
		for _, other := range nones {
			if !Same(none, other) || len(Union(none, other)) != 0 || len(Inter(none, other)) != 0 || len(Minus(none, other)) != 0 {
				t.Error("nothing and nothing")
			}
		}
	}
}
