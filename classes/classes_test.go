package classes

import (
	"math"
	"math/rand"
	"slices"
	"testing"

	"hornbook/api"
	"hornbook/uniset"
)

// known: sets, and what the chapter tells of their classes.
type known struct {
	name    string
	sets    [][]api.Range
	classes [][]api.Range
	in      []string // a text a class, a sign a set: + if the set has it
}

func knownCuts() []known {
	all := rangesOf(0, top)
	return []known{
		{"no sets", nil, [][]api.Range{all}, []string{""}},
		{"one of something", [][]api.Range{rangesOf(5, 7)}, [][]api.Range{rangesOf(0, 4, 8, top), rangesOf(5, 7)}, []string{"-", "+"}},
		{"one of nothing", [][]api.Range{nil}, [][]api.Range{all}, []string{"-"}},
		{"one of all", [][]api.Range{all}, [][]api.Range{all}, []string{"+"}},
		{"nothing, all", [][]api.Range{{}, all}, [][]api.Range{all}, []string{"-+"}},
		{"one twice", [][]api.Range{rangesOf(5, 7), rangesOf(5, 7)}, [][]api.Range{rangesOf(0, 4, 8, top), rangesOf(5, 7)}, []string{"--", "++"}},
		{"one and what it hasn't", [][]api.Range{rangesOf(5, 7), rangesOf(0, 4, 8, top)}, [][]api.Range{rangesOf(0, 4, 8, top), rangesOf(5, 7)}, []string{"-+", "+-"}},
		{"begins at 0", [][]api.Range{rangesOf(0, 0)}, [][]api.Range{rangesOf(0, 0), rangesOf(1, top)}, []string{"+", "-"}},
		{"ends at the top", [][]api.Range{rangesOf(top, top)}, [][]api.Range{rangesOf(0, top-1), rangesOf(top, top)}, []string{"-", "+"}},
		{"at both ends", [][]api.Range{rangesOf(0, 3, top-3, top)}, [][]api.Range{rangesOf(0, 3, top-3, top), rangesOf(4, top-4)}, []string{"+", "-"}},
		{"all but the ends", [][]api.Range{rangesOf(1, top-1)}, [][]api.Range{rangesOf(0, 0, top, top), rangesOf(1, top-1)}, []string{"-", "+"}},
		{"no meeting", [][]api.Range{rangesOf(10, 11), rangesOf(5, 7)}, [][]api.Range{rangesOf(0, 4, 8, 9, 12, top), rangesOf(5, 7), rangesOf(10, 11)}, []string{"--", "-+", "+-"}},
		{"overlap", [][]api.Range{rangesOf(5, 7), rangesOf(7, 9)}, [][]api.Range{rangesOf(0, 4, 10, top), rangesOf(5, 6), rangesOf(7, 7), rangesOf(8, 9)}, []string{"--", "+-", "++", "-+"}},
		{"touch", [][]api.Range{rangesOf(5, 7), rangesOf(8, 9)}, [][]api.Range{rangesOf(0, 4, 10, top), rangesOf(5, 7), rangesOf(8, 9)}, []string{"--", "+-", "-+"}},
		{"one within another", [][]api.Range{rangesOf(5, 9), rangesOf(6, 7)}, [][]api.Range{rangesOf(0, 4, 10, top), rangesOf(5, 5, 8, 9), rangesOf(6, 7)}, []string{"--", "+-", "++"}},
		{"within, one begin", [][]api.Range{rangesOf(5, 9), rangesOf(5, 7)}, [][]api.Range{rangesOf(0, 4, 10, top), rangesOf(5, 7), rangesOf(8, 9)}, []string{"--", "++", "+-"}},
		{"within, one end", [][]api.Range{rangesOf(5, 9), rangesOf(8, 9)}, [][]api.Range{rangesOf(0, 4, 10, top), rangesOf(5, 7), rangesOf(8, 9)}, []string{"--", "+-", "++"}},
		{"classes of several pieces", [][]api.Range{rangesOf(2, 3, 8, 9, 14, 15), rangesOf(2, 3, 14, 20)}, [][]api.Range{rangesOf(0, 1, 4, 7, 10, 13, 21, top), rangesOf(2, 3, 14, 15), rangesOf(8, 9), rangesOf(16, 20)}, []string{"--", "++", "+-", "-+"}},
		{"the surrogates", [][]api.Range{rangesOf(0xD800, 0xDFFF)}, [][]api.Range{rangesOf(0, 0xD7FF, 0xE000, top), rangesOf(0xD800, 0xDFFF)}, []string{"-", "+"}},
		{"in no order, overlapping", [][]api.Range{rangesOf(8, 9, 5, 7, 6, 8, 8, 9)}, [][]api.Range{rangesOf(0, 4, 10, top), rangesOf(5, 9)}, []string{"-", "+"}},
		{"touching, one twice", [][]api.Range{rangesOf(5, 5, 6, 6, 5, 5)}, [][]api.Range{rangesOf(0, 4, 7, top), rangesOf(5, 6)}, []string{"-", "+"}},
		{"ranges that are none", [][]api.Range{rangesOf(-3, 4, 9, 8, 5, 5, top, top+1, math.MinInt32, math.MaxInt32, math.MaxInt32, math.MinInt32)}, [][]api.Range{rangesOf(0, 4, 6, top), rangesOf(5, 5)}, []string{"-", "+"}},
		{"no range that is one", [][]api.Range{rangesOf(-1, 0), rangesOf(top, top+1), rangesOf(1, 0), rangesOf(-1, -1), rangesOf(math.MaxInt32, math.MaxInt32)}, [][]api.Range{all}, []string{"-----"}},
		{"nothing between two of something", [][]api.Range{rangesOf(5, 5), nil, rangesOf(5, 6)}, [][]api.Range{rangesOf(0, 4, 7, top), rangesOf(5, 5), rangesOf(6, 6)}, []string{"---", "+-+", "--+"}},
	}
}

// P4.1
func TestKnownCuts(t *testing.T) {
	for _, k := range knownCuts() {
		c := Cut(k.sets)
		if c.Len() != len(k.classes) || c.Sets() != len(k.sets) {
			t.Errorf("%s: %d classes of %d sets", k.name, c.Len(), c.Sets())
		}
		for i, want := range k.classes {
			if got := c.Set(i); !slices.Equal(got, want) {
				t.Errorf("%s: Set(%d) = %v, want %v", k.name, i, got, want)
			}
			for _, r := range want {
				if c.Of(r.Lo) != i || c.Of(r.Hi) != i || c.Of(r.Lo+(r.Hi-r.Lo)/2) != i {
					t.Errorf("%s: Of in %v isn't %d", k.name, r, i)
				}
			}
			for s, sign := range k.in[i] {
				if c.In(i, s) != (sign == '+') {
					t.Errorf("%s: In(%d, %d) = %v", k.name, i, s, c.In(i, s))
				}
			}
		}
		check(t, k.sets)
	}
}

// P4.1: each two sets of code points at both ends of the space, and a third.
func TestEveryTwoSmallSets(t *testing.T) {
	few := []int32{0, 1, 3, top - 1, top}
	subset := func(mask int) (out []api.Range) {
		for i, p := range few {
			if mask>>i&1 == 1 {
				out = append(out, api.Range{Lo: p, Hi: p})
			}
		}
		return out
	}
	for x := range 1 << len(few) {
		for y := range 1 << len(few) {
			check(t, [][]api.Range{subset(x), subset(y)})
			check(t, [][]api.Range{subset(x), subset(y), subset((7*x + 11*y) % 32)})
		}
	}
}

// P4.1: sets, lists in no order, lists with ranges that are none.
func TestCutsByTheDefinition(t *testing.T) {
	r := rand.New(rand.NewSource(41))
	for range 3000 {
		check(t, wildSets(r, 5, 5))
		check(t, fairSets(r, 6, 4))
		check(t, append(fairSets(r, 3, 4), wildSets(r, 3, 3)...))
	}
	for range 30 {
		check(t, fairSets(r, 80, 6))
	}
}

// P4.1: every code point, one by one.
func TestEveryCodePoint(t *testing.T) {
	sets := [][]api.Range{rangesOf(0, 0x7F, 0xD800, 0xDFFF), rangesOf('a', 'z', 0x10000, top), rangesOf(0xDC00, 0x1FFFF)}
	c := Cut(sets)
	numbers := map[[64]bool]int{}
	for p := int32(0); p <= top; p++ {
		row := definedRow(sets, p)
		if _, there := numbers[row]; !there {
			numbers[row] = len(numbers)
		}
		if c.Of(p) != numbers[row] {
			t.Fatalf("Of(%d) = %d, want %d", p, c.Of(p), numbers[row])
		}
	}
	if c.Len() != len(numbers) {
		t.Errorf("%d classes, want %d", c.Len(), len(numbers))
	}
}

// P4.1: the first 64 sets alone count.
func TestSetsPastTheLast(t *testing.T) {
	var many [][]api.Range
	for i := range int32(130) {
		many = append(many, rangesOf(2*i, 2*i))
	}
	for _, n := range []int{0, 1, 62, 63, 64, 65, 66, 128, 130} {
		c, counted := Cut(many[:n]), min(n, 64)
		if c.Sets() != counted || c.Len() != counted+1 {
			t.Errorf("of %d sets: %d classes of %d", n, c.Len(), c.Sets())
		}
		for i := range n {
			k := c.Of(int32(2 * i))
			if c.In(k, i) != (i < 64) || (k == c.Of(1)) != (i >= 64) {
				t.Errorf("of %d sets: that of number %d", n, i)
			}
		}
		check(t, many[:n])
	}
	last := make([][]api.Range, 64)
	last[63] = rangesOf(9, 9)
	check(t, last)
	if c := Cut(last); c.Len() != 2 || !c.In(c.Of(9), 63) || c.In(c.Of(8), 63) {
		t.Error("the last set that counts doesn't")
	}
	one := append(make([][]api.Range, 64), rangesOf(9, 9))
	check(t, one)
	if c := Cut(one); c.Len() != 1 || c.Sets() != 64 || c.In(0, 64) {
		t.Error("a set past the last one counts")
	}
}

// P4.1: 64 sets, each within the one ahead of it: classes of two pieces.
func TestNestedSets(t *testing.T) {
	var sets [][]api.Range
	for i := range int32(64) {
		sets = append(sets, rangesOf(i, top-i))
	}
	c := Cut(sets)
	if c.Len() != 64 || c.Of(0) != 0 || c.Of(top) != 0 || c.Of(63) != 63 || c.Of(top/2) != 63 || !c.In(63, 0) || !c.In(63, 63) || c.In(0, 1) {
		t.Errorf("%d classes", c.Len())
	}
	check(t, sets)
}

// P4.1: a set may have more ranges than layer 3 makes of a list.
func TestCutOfManyRanges(t *testing.T) {
	var even, third []api.Range
	for p := int32(0); p <= top; p += 2 {
		even = append(even, api.Range{Lo: p, Hi: p})
	}
	for p := int32(0); p <= top; p += 3 {
		third = append(third, api.Range{Lo: p, Hi: p})
	}
	slices.Reverse(third)
	c := Cut([][]api.Range{even, third})
	if c.Len() != 4 || c.Sets() != 2 {
		t.Fatalf("%d classes", c.Len())
	}
	rows := [][2]bool{{true, true}, {false, false}, {true, false}, {false, true}}
	for p := int32(0); p <= top; p++ {
		k := c.Of(p)
		if k < 0 || k > 3 || rows[k] != [2]bool{p%2 == 0, p%3 == 0} || c.In(k, 0) != rows[k][0] || c.In(k, 1) != rows[k][1] {
			t.Fatalf("Of(%d) = %d", p, k)
		}
	}
	count := 0
	for k := range 4 {
		if !uniset.Is(c.Set(k)) {
			t.Errorf("Set(%d) is none", k)
		}
		count += uniset.Count(c.Set(k))
	}
	if count != top+1 {
		t.Errorf("%d code points", count)
	}
}

// Rule 1: also of what no call made, no call panics.
func TestZeroClasses(t *testing.T) {
	var c Classes
	if c.Len() != 0 || c.Of(0) != -1 || c.Of(top) != -1 || len(c.Set(0)) != 0 || c.In(0, 0) || c.Sets() != 0 {
		t.Error("classes of nothing")
	}
}
