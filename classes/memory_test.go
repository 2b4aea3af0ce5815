package classes

import (
	"math/rand"
	"slices"
	"sync"
	"testing"

	"hornbook/api"
)

// told is all that classes tell.
type told struct {
	len, sets int
	classes   [][]api.Range
	of        []int
	in        []bool
}

func tell(c *Classes, points []int32) told {
	out := told{len: c.Len(), sets: c.Sets(), classes: setsOf(c)}
	for _, p := range points {
		out.of = append(out.of, c.Of(p))
	}
	for k := range c.Len() {
		for s := range c.Sets() {
			out.in = append(out.in, c.In(k, s))
		}
	}
	return out
}

func sameTold(a, b told) bool {
	return a.len == b.len && a.sets == b.sets && sameSets(a.classes, b.classes) && slices.Equal(a.of, b.of) && slices.Equal(a.in, b.in)
}

// fill writes over all of a list's memory, its spare room too.
func fill(l []api.Range) {
	l = l[:cap(l)]
	for i := range l {
		l[i] = api.Range{Lo: 6, Hi: 6}
	}
}

// withRoom lays more sets behind sets, and ranges behind each one, in spare
// room; and tells the whole of it, too.
func withRoom(sets [][]api.Range) (short, whole [][]api.Range) {
	for _, l := range sets {
		short = append(short, append(slices.Clone(l), rangesOf(2, 2, 4, 5, -1, 7)...)[:len(l)])
	}
	whole = append(short, rangesOf(3, 3), rangesOf(1, 8))
	return whole[:len(sets)], whole
}

// deep copies sets with all of their memory.
func deep(sets [][]api.Range) [][]api.Range {
	var out [][]api.Range
	for _, l := range sets {
		out = append(out, slices.Clone(l[:cap(l)]))
	}
	return out
}

// samples tells lists of sets: sets, lists in no order, with ranges that are
// none, and more of them than count.
func samples() [][][]api.Range {
	r := rand.New(rand.NewSource(43))
	var out [][][]api.Range
	for _, k := range knownCuts() {
		out = append(out, k.sets)
	}
	for range 100 {
		out = append(out, wildSets(r, 5, 5), fairSets(r, 5, 5))
	}
	return append(out, fairSets(r, 200, 3))
}

// Rule 3: what is handed in is not changed, spare room included; what lies
// behind a list is none of it.
func TestArgumentsAreNotChanged(t *testing.T) {
	for _, sets := range samples() {
		short, whole := withRoom(sets)
		before := deep(whole)
		c := Cut(short)
		points := pointsOf(whole)
		got := tell(c, points)
		for k := range c.Len() {
			fill(c.Set(k))
		}
		if !sameSets(deep(whole), before) {
			t.Fatalf("%v became %v", before, whole)
		}
		if !sameTold(got, tell(Cut(sets), points)) {
			t.Fatalf("%v: otherwise with spare room", sets)
		}
	}
}

// Rule 3: what is handed in is not kept.
func TestArgumentsAreNotKept(t *testing.T) {
	for _, sets := range samples() {
		_, handed := withRoom(sets)
		points := pointsOf(handed)
		c := Cut(handed)
		want := tell(c, points)
		for i, l := range handed {
			fill(l)
			handed[i] = rangesOf(1, 1)
		}
		if !sameTold(tell(c, points), want) {
			t.Fatalf("%v: the classes hang on what was handed in", sets)
		}
	}
}

// Rule 3: an answer is the caller's, its spare room too.
func TestAnswersAreNewMemory(t *testing.T) {
	for _, sets := range samples() {
		c, other := Cut(sets), Cut(sets)
		points := pointsOf(sets)
		want := tell(c, points)
		for k := range c.Len() {
			one, two := c.Set(k), c.Set(k)
			fill(one)
			if !slices.Equal(two, want.classes[k]) {
				t.Fatalf("%v: two answers share memory", sets)
			}
			_ = append(two, rangesOf(0, 0)...)
			fill(two)
		}
		if !sameTold(tell(c, points), want) || !sameTold(tell(other, points), want) {
			t.Fatalf("%v: an answer is what is kept", sets)
		}
	}
}

// Rule 3: sets may be pieces of one list, or one and the same.
func TestSetsThatShareMemory(t *testing.T) {
	l := rangesOf(7, 9, 1, 3, 4, 4, 12, 12, -1, 5)
	for from := range len(l) {
		for to := from; to <= len(l); to++ {
			check(t, [][]api.Range{l[:to], l[from:], l[from:to], l})
		}
	}
}

// Rule 2: a nil list and an empty one are the same.
func TestNilIsEmpty(t *testing.T) {
	for _, none := range [][][]api.Range{nil, {}, slices.Repeat([][]api.Range{rangesOf(1, 3)}, 2)[:0]} {
		c := Cut(none)
		if c == nil || c.Len() != 1 || c.Sets() != 0 || c.Of(0) != 0 || c.Of(top) != 0 || c.In(0, 0) || !slices.Equal(c.Set(0), rangesOf(0, top)) {
			t.Error("no sets")
		}
		check(t, none)
	}
	for _, none := range [][]api.Range{nil, {}, rangesOf(1, 3)[:0]} {
		sets := [][]api.Range{none, rangesOf(1, 3), none}
		want := Cut([][]api.Range{nil, rangesOf(1, 3), {}})
		if !sameTold(tell(Cut(sets), pointsOf(sets)), tell(want, pointsOf(sets))) {
			t.Error("a set of nothing")
		}
		check(t, sets)
	}
}

// Rule 6: what one is told hangs on no other one, and not on who asks.
func TestClassesAskedAtOnce(t *testing.T) {
	sets := [][]api.Range{rangesOf(5, 9), rangesOf(7, 20, 1, 2)}
	c, points := Cut(sets), pointsOf(sets)
	want := tell(c, points)
	answers := make([]told, 8)
	var wait sync.WaitGroup
	for i := range answers {
		wait.Go(func() {
			Cut([][]api.Range{rangesOf(int32(i), int32(i))})
			answers[i] = tell(c, points)
		})
	}
	wait.Wait()
	for _, got := range answers {
		if !sameTold(got, want) {
			t.Error("otherwise when asked at once")
		}
	}
}
