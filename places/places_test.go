package places

import (
	"math"
	"slices"
	"strconv"
	"strings"
	"testing"

	"hornbook/api"
	"hornbook/match"
	"hornbook/regex"
)

const begin = uint64(1) << 63

// set tells an NSet of ranges, by their ends.
func set(ends ...int32) api.Node {
	e := api.Node{Kind: api.NSet}
	for i := 0; i < len(ends); i += 2 {
		e.Set = append(e.Set, api.Range{Lo: ends[i], Hi: ends[i+1]})
	}
	return e
}

func one(point int32) api.Node { return set(point, point) }

func none() api.Node { return api.Node{Kind: api.NNone} }

func variable(name string) api.Node { return api.Node{Kind: api.NVar, Name: name} }

func over(kind int, kids ...api.Node) api.Node { return api.Node{Kind: kind, Kids: kids} }

// nested tells e under so many nodes of a kind.
func nested(e api.Node, kind, deep int) api.Node {
	for range deep {
		e = over(kind, e)
	}
	return e
}

// row tells so many sets, one behind the other: 2n - 1 nodes.
func row(n int) api.Node {
	e := one('a')
	for range n - 1 {
		e = over(api.NCat, e, one('b'))
	}
	return e
}

// read tells the expression that s is.
func read(t *testing.T, s string) api.Node {
	t.Helper()
	e, at, err := regex.Parse(s)
	if err != api.OK {
		t.Fatalf("%s: %v at %d", s, err, at)
	}
	return e
}

// made tells the places of e, which is an expression.
func made(t *testing.T, e api.Node) *Auto {
	t.Helper()
	a, err := New(e)
	if err != api.OK || a == nil {
		t.Fatalf("New(%s) = %v, %v", regex.Print(e), a, err)
	}
	return a
}

func isRefused(t *testing.T, e api.Node, want api.Errno) {
	t.Helper()
	if a, err := New(e); err != want || a != nil {
		t.Errorf("New(%.99s) = %v, %v, want %v", regex.Print(e), a, err, want)
	}
}

// numbers tells the bits of a mask, a blank between.
func numbers(of uint64) string {
	var out []string
	for i := range 64 {
		if of>>i&1 == 1 {
			out = append(out, strconv.Itoa(i))
		}
	}
	return strings.Join(out, " ")
}

// pairs tells what comes behind what, a blank between.
func pairs(a *Auto) string {
	var out []string
	for i := range a.Len() {
		for _, j := range strings.Fields(numbers(a.Follow(i))) {
			out = append(out, strconv.Itoa(i)+">"+j)
		}
	}
	return strings.Join(out, " ")
}

// P13.1: what is no expression.
func TestErrFormOfNone(t *testing.T) {
	for _, bad := range []api.Node{
		{}, {Kind: -1}, {Kind: 9}, {Kind: math.MaxInt}, {Kind: math.MinInt},
		{Kind: api.NStar}, {Kind: api.NPlus}, {Kind: api.NOpt}, {Kind: api.NCat}, {Kind: api.NAlt},
		over(api.NCat, none()), over(api.NAlt, none()), over(api.NCat, none(), none(), none()), over(api.NStar, none(), none()),
		over(api.NNone, none()), over(api.NSet, none()),
		{Kind: api.NNone, Name: "x"}, {Kind: api.NSet, Name: "x"}, {Kind: api.NNone, Set: one('a').Set}, {Kind: api.NStar, Set: one('a').Set, Kids: []api.Node{none()}},
		set('b', 'a'), set('a', 'a', 'b', 'b'), set('b', 'b', 'a', 'a'), set('a', 'c', 'b', 'd'), set(0, 0x110000), set(-1, 0), set(math.MinInt32, math.MaxInt32),
		nested(one('a'), api.NStar, 400), nested(one('a'), api.NStar, 100000), {Kind: api.NCat, Kids: make([]api.Node, 100000)},
	} {
		isRefused(t, bad, api.ErrForm)
		isRefused(t, over(api.NStar, bad), api.ErrForm)
		isRefused(t, over(api.NCat, one('a'), bad), api.ErrForm)
		isRefused(t, over(api.NAlt, bad, one('a')), api.ErrForm)
	}
	large := api.Node{Kind: api.NSet}
	for i := range int32(201) {
		large.Set = append(large.Set, api.Range{Lo: 2 * i, Hi: 2 * i})
	}
	isRefused(t, large, api.ErrForm)
	large.Set = large.Set[:200]
	if a := made(t, large); !slices.Equal(a.Set(0), large.Set) || a.Step(begin, 398) != 1 || a.Step(begin, 397) != 0 || a.Step(begin, 400) != 0 {
		t.Error("P13.1: a set of as many ranges as there may be")
	}
	if api.ErrForm != 70 || api.ErrSize != 72 {
		t.Error("the errors' numbers")
	}
}

// P13.1: as many nodes as regex's Is takes.
func TestManyNodes(t *testing.T) {
	a := made(t, nested(one('a'), api.NStar, 399))
	if a.Len() != 1 || a.First() != 1 || a.Last() != 1 || a.Follow(0) != 1 || !a.Null() {
		t.Error("P13.1: 399 stars")
	}
	if a = made(t, nested(one('a'), api.NOpt, 399)); a.Follow(0) != 0 || !a.Null() {
		t.Error("P13.1: 399 times none or one")
	}
	if a = made(t, nested(one('a'), api.NPlus, 399)); a.Follow(0) != 1 || a.Null() {
		t.Error("P13.1: 399 times at least one")
	}
	e := one('a')
	for range 199 { // to the right, not to the left
		e = over(api.NCat, none(), e)
	}
	if a = made(t, over(api.NStar, e)); a.First() != 1 || a.Last() != 1 || a.Follow(0) != 1 {
		t.Error("P13.1: 400 nodes")
	}
}

// P13.1: a variable, at each depth and on each side.
func TestErrFormOfVariables(t *testing.T) {
	isRefused(t, variable("x"), api.ErrForm)
	for _, s := range []string{"$x", "$x*", "$x+", "$x?", "$x 'a", "'a $x", "$x | 'a", "'a | $x", "$x $x", "[] $x", "$x []", "() $x", "('a | 'b* ('c $x)?)+", "(('a (() | $x)) 'b)* 'c"} {
		isRefused(t, read(t, s), api.ErrForm)
	}
	for deep := range 200 {
		for _, kind := range []int{api.NStar, api.NPlus, api.NOpt} {
			isRefused(t, nested(variable("x"), kind, deep), api.ErrForm)
		}
		left, right := variable("x"), variable("x")
		for range min(deep, 59) {
			left, right = over(api.NCat, left, one('a')), over(api.NAlt, one('a'), right)
		}
		isRefused(t, left, api.ErrForm)
		isRefused(t, right, api.ErrForm)
	}
	isRefused(t, variable(""), api.ErrForm)
	isRefused(t, variable("no name"), api.ErrForm)
	if a := made(t, read(t, "'x")); a.Len() != 1 {
		t.Error("P13.1: no variable")
	}
}

// P13.1: MaxPlaces places, one more, and both errors at once.
func TestErrSize(t *testing.T) {
	wide, empties := one('a'), set()
	for range 59 {
		wide, empties = over(api.NAlt, wide, one('b')), over(api.NAlt, set(), empties)
	}
	for _, e := range []api.Node{row(60), wide, empties, over(api.NStar, row(60)), over(api.NAlt, row(30), row(30)), over(api.NCat, none(), over(api.NPlus, wide))} {
		a := made(t, e)
		if a.Len() != 60 || len(a.Set(60)) > 0 || a.Follow(60) != 0 {
			t.Errorf("P13.1: %d places", a.Len())
		}
		isRefused(t, over(api.NCat, e, one('c')), api.ErrSize)
		isRefused(t, over(api.NAlt, set(), e), api.ErrSize)
		isRefused(t, over(api.NOpt, over(api.NCat, e, over(api.NStar, set()))), api.ErrSize)
		isRefused(t, over(api.NCat, e, e), api.ErrSize)
		isRefused(t, over(api.NCat, e, over(api.NCat, one('c'), variable("x"))), api.ErrForm)
		isRefused(t, over(api.NCat, variable("x"), over(api.NAlt, e, set())), api.ErrForm)
		isRefused(t, over(api.NCat, e, over(api.NCat, one('c'), api.Node{})), api.ErrForm)
		isRefused(t, over(api.NCat, e, set('b', 'a')), api.ErrForm)
		made(t, over(api.NCat, over(api.NStar, none()), over(api.NAlt, e, none()))) // what is no set is no place
	}
	isRefused(t, row(200), api.ErrSize)
	isRefused(t, row(201), api.ErrForm) // more nodes than an expression has
	a := made(t, row(60))
	for i := range 60 {
		want := uint64(1) << (i + 1)
		if i == 59 {
			want = 0
		}
		if a.Follow(i) != want {
			t.Errorf("P13.1: %s behind %d", numbers(a.Follow(i)), i)
		}
	}
	if a.First() != 1 || a.Last() != 1<<59 {
		t.Errorf("P13.1: %x, %x", a.First(), a.Last())
	}
	a = made(t, over(api.NStar, wide))
	for i := range 60 {
		if a.Follow(i) != 1<<60-1 {
			t.Errorf("P13.1: %s behind %d", numbers(a.Follow(i)), i)
		}
	}
	if a.First() != 1<<60-1 || a.Last() != 1<<60-1 {
		t.Errorf("P13.1: %x, %x", a.First(), a.Last())
	}
}

// P13.1: each kind by itself and within each other one; P13.1's masks as lists
// of places, what follows as pairs of them.
func TestKinds(t *testing.T) {
	for _, c := range []struct {
		e                   string
		null                bool
		first, last, follow string
	}{
		{"'a", false, "0", "0", ""}, {"()", true, "", "", ""}, {"[]", false, "0", "0", ""}, {".", false, "0", "0", ""},
		{"'a 'b", false, "0", "1", "0>1"}, {"'a? 'b", false, "0 1", "1", "0>1"}, {"'a 'b?", false, "0", "0 1", "0>1"}, {"'a? 'b?", true, "0 1", "0 1", "0>1"},
		{"'a ()", false, "0", "0", ""}, {"() 'a", false, "0", "0", ""}, {"() ()", true, "", "", ""}, {"[] 'b", false, "0", "1", "0>1"}, {"'a []", false, "0", "1", "0>1"},
		{"'a | 'b", false, "0 1", "0 1", ""}, {"'a? | 'b", true, "0 1", "0 1", ""}, {"'a | 'b?", true, "0 1", "0 1", ""}, {"'a | ()", true, "0", "0", ""}, {"() | 'a", true, "0", "0", ""}, {"() | ()", true, "", "", ""}, {"[] | []", false, "0 1", "0 1", ""},
		{"'a*", true, "0", "0", "0>0"}, {"'a+", false, "0", "0", "0>0"}, {"'a?", true, "0", "0", ""},
		{"()*", true, "", "", ""}, {"()+", true, "", "", ""}, {"()?", true, "", "", ""}, {"[]*", true, "0", "0", "0>0"}, {"[]+", false, "0", "0", "0>0"}, {"[]?", true, "0", "0", ""},
		{"'a**", true, "0", "0", "0>0"}, {"'a*+", true, "0", "0", "0>0"}, {"'a*?", true, "0", "0", "0>0"}, {"'a+*", true, "0", "0", "0>0"}, {"'a++", false, "0", "0", "0>0"}, {"'a+?", true, "0", "0", "0>0"}, {"'a?*", true, "0", "0", "0>0"}, {"'a?+", true, "0", "0", "0>0"}, {"'a??", true, "0", "0", ""},
		{"('a 'b)*", true, "0", "1", "0>1 1>0"}, {"('a 'b)+", false, "0", "1", "0>1 1>0"}, {"('a 'b)?", true, "0", "1", "0>1"}, {"('a 'b?)*", true, "0", "0 1", "0>0 0>1 1>0"}, {"('a? 'b)+", false, "0 1", "1", "0>1 1>0 1>1"}, {"('a? 'b?)+", true, "0 1", "0 1", "0>0 0>1 1>0 1>1"},
		{"('a | 'b)*", true, "0 1", "0 1", "0>0 0>1 1>0 1>1"}, {"('a | 'b)+", false, "0 1", "0 1", "0>0 0>1 1>0 1>1"}, {"('a | 'b)?", true, "0 1", "0 1", ""}, {"(() | 'a)+", true, "0", "0", "0>0"},
		{"'a 'b 'c", false, "0", "2", "0>1 1>2"}, {"'a ('b 'c)", false, "0", "2", "0>1 1>2"}, {"'a ('b | 'c)", false, "0", "1 2", "0>1 0>2"}, {"('a | 'b) 'c", false, "0 1", "2", "0>2 1>2"}, {"'a 'b? 'c", false, "0", "2", "0>1 0>2 1>2"}, {"'a () 'c", false, "0", "1", "0>1"}, {"'a 'b* 'c", false, "0", "2", "0>1 0>2 1>1 1>2"}, {"'a 'b+ 'c", false, "0", "2", "0>1 1>1 1>2"},
		{"'a? 'b? 'c?", true, "0 1 2", "0 1 2", "0>1 0>2 1>2"}, {"'a* 'b* 'c*", true, "0 1 2", "0 1 2", "0>0 0>1 0>2 1>1 1>2 2>2"}, {"'a+ 'b+", false, "0", "1", "0>0 0>1 1>1"},
		{"'a | 'b | 'c", false, "0 1 2", "0 1 2", ""}, {"'a 'b | 'c", false, "0 2", "1 2", "0>1"}, {"'a | 'b 'c", false, "0 1", "0 2", "1>2"}, {"'a* | 'b+", true, "0 1", "0 1", "0>0 1>1"}, {"'a? | 'b 'c?", true, "0 1", "0 1 2", "1>2"},
		{"('a 'b | 'c)*", true, "0 2", "1 2", "0>1 1>0 1>2 2>0 2>2"}, {"('a 'b?)* 'c", false, "0 2", "2", "0>0 0>1 0>2 1>0 1>2"}, {"(('a | 'b)+ 'c)? 'd", false, "0 1 3", "3", "0>0 0>1 0>2 1>0 1>1 1>2 2>3"}, {"'a 'a | 'a", false, "0 2", "1 2", "0>1"}, {"('a* ('b 'c)?)+ []", false, "0 1 3", "3", "0>0 0>1 0>3 1>2 2>0 2>1 2>3"},
	} {
		a := made(t, read(t, c.e))
		if a.Null() != c.null || numbers(a.First()) != c.first || numbers(a.Last()) != c.last || pairs(a) != c.follow || a.Len() != strings.Count(c.e, "'")+strings.Count(c.e, "[")+strings.Count(c.e, ".") {
			t.Errorf("P13.1: %s: %v, first %s, last %s, follow %s, %d places", c.e, a.Null(), numbers(a.First()), numbers(a.Last()), pairs(a), a.Len())
		}
	}
}

// P13.1: the places are the sets from the left on, two of one set are two, and
// an empty one is one.
func TestSets(t *testing.T) {
	want := []api.Node{one('a'), set(), set('a', 'c', 'x', 'x'), one('a'), set(), set(0, 0x10FFFF), set(0, 0, 0xD800, 0xDFFF, 0x10FFFF, 0x10FFFF)}
	e := over(api.NAlt, over(api.NCat, want[0], over(api.NStar, over(api.NAlt, want[1], over(api.NCat, want[2], none())))), over(api.NPlus, over(api.NCat, over(api.NOpt, over(api.NCat, want[3], want[4])), over(api.NCat, want[5], want[6]))))
	a := made(t, e)
	if a.Len() != len(want) {
		t.Fatalf("P13.1: %d places", a.Len())
	}
	for i := range want {
		if !slices.Equal(a.Set(i), want[i].Set) {
			t.Errorf("P13.1: Set(%d) = %v, want %v", i, a.Set(i), want[i].Set)
		}
	}
	shared := one('q') // one list, three times in a tree
	a = made(t, over(api.NCat, over(api.NCat, shared, shared), over(api.NStar, shared)))
	if a.Len() != 3 || a.First() != 1 || a.Last() != 2|4 || a.Follow(0) != 2 || a.Follow(1) != 4 || a.Follow(2) != 4 {
		t.Error("P13.1: one set at three places")
	}
	for i := range 3 {
		if !slices.Equal(a.Set(i), shared.Set) {
			t.Errorf("P13.1: Set(%d) = %v", i, a.Set(i))
		}
	}
	if a.Step(begin, 'q') != 1 || a.Step(1, 'q') != 2 || a.Step(1|2, 'q') != 2|4 || a.Step(begin|1|2|4, 'q') != 1|2|4 {
		t.Error("P13.2: one set at three places")
	}
}

// P13.1: Set and Follow of numbers that no place has.
func TestOtherNumbers(t *testing.T) {
	for _, s := range []string{"()", "'a", "'a*", "('a | 'b)+", "()*", "['a 'c]? 'd"} {
		a := made(t, read(t, s))
		for _, i := range []int{-1, -2, -63, -64, math.MinInt, a.Len(), a.Len() + 1, 59, 60, 63, 64, 127, 1 << 32, math.MaxInt} {
			if len(a.Set(i)) > 0 || a.Follow(i) != 0 {
				t.Errorf("P13.1: %s: place %d: %v, %x", s, i, a.Set(i), a.Follow(i))
			}
		}
	}
	a := made(t, over(api.NStar, row(60)))
	for _, i := range []int{-1, 60, 61, 62, 63, 64, math.MinInt, math.MaxInt} {
		if len(a.Set(i)) > 0 || a.Follow(i) != 0 {
			t.Errorf("P13.1: place %d of 60: %v, %x", i, a.Set(i), a.Follow(i))
		}
	}
	if len(a.Set(59)) == 0 || a.Follow(59) != 1 {
		t.Error("P13.1: place 59 of 60")
	}
}

// P13.2: states by hand.
func TestStates(t *testing.T) {
	a := made(t, read(t, "'a ['b-'c]* 'b")) // 0>1 0>2 1>1 1>2
	for _, c := range []struct {
		state uint64
		r     int32
		want  uint64
	}{
		{begin, 'a', 1}, {begin, 'b', 0}, {begin, 'c', 0}, {1, 'b', 2 | 4}, {1, 'c', 2}, {1, 'a', 0}, {2, 'b', 2 | 4}, {2, 'c', 2}, {4, 'a', 0}, {4, 'b', 0}, {1 | 2 | 4, 'b', 2 | 4},
		{begin | 4, 'a', 1}, {begin | 4, 'b', 0}, {begin | 1, 'a', 1}, {begin | 1, 'b', 2 | 4}, {begin | 1, 'c', 2}, {0, 'a', 0}, {0, 'b', 0},
		{8, 'a', 0}, {1 << 60, 'a', 0}, {1 << 61, 'b', 0}, {1 << 62, 'b', 0}, {^(begin | 7), 'a', 0}, {^(begin | 7), 'b', 0}, {^begin, 'a', 0}, {^begin, 'c', 2}, {math.MaxUint64, 'a', 1}, {math.MaxUint64, 'b', 2 | 4}, {^uint64(7), 'a', 1}, {^uint64(7), 'b', 0},
		{math.MaxUint64, 'd', 0}, {math.MaxUint64, -1, 0}, {math.MaxUint64, 0x110000, 0}, {math.MaxUint64, math.MinInt32, 0}, {math.MaxUint64, math.MaxInt32, 0},
	} {
		if got := a.Step(c.state, c.r); got != c.want {
			t.Errorf("P13.2: Step(%x, %d) = %x, want %x", c.state, c.r, got, c.want)
		}
	}
	for state, want := range map[uint64]bool{0: false, begin: false, 1: false, 2: false, 4: true, 1 | 4: true, begin | 4: true, begin | 1: false, 3: false, 8: false, 1 << 60: false, 1 << 62: false, ^uint64(4): false, math.MaxUint64: true, ^begin: true} {
		if a.Accept(state) != want {
			t.Errorf("P13.2: Accept(%x) = %v", state, !want)
		}
	}
	a = made(t, read(t, "('a 'b?)*"))
	for state, want := range map[uint64]bool{0: false, begin: true, 1: true, 2: true, 3: true, 4: false, 4 | 8 | 1<<62: false, begin | 4: true, begin | 1: true, ^(begin | 3): false, ^uint64(3): true} {
		if a.Accept(state) != want {
			t.Errorf("P13.2: Accept(%x) = %v", state, !want)
		}
	}
	a = made(t, none())
	for _, state := range []uint64{0, 1, 1 << 59, 1 << 60, 1 << 62, ^begin} {
		if a.Accept(state) || !a.Accept(state|begin) || a.Step(state, 'a') != 0 || a.Step(state|begin, 0) != 0 {
			t.Errorf("P13.2: the empty text alone: %x", state)
		}
	}
	a = made(t, set())
	if a.Accept(begin) || !a.Accept(1) || a.Step(begin, 0) != 0 || a.Step(begin|1, 'a') != 0 || a.Step(begin, 0x10FFFF) != 0 {
		t.Error("P13.2: an empty set")
	}
	a = made(t, over(api.NStar, row(60)))
	if a.Step(1<<59, 'a') != 1 || a.Step(1<<58, 'b') != 1<<59 || a.Step(^begin, 'b') != 1<<60-2 || a.Step(math.MaxUint64, 'a') != 1 || !a.Accept(1<<59) || a.Accept(1<<58) || a.Accept(1<<60) || !a.Accept(begin) {
		t.Error("P13.2: 60 places")
	}
}

// P13.2: code points at the ends of sets, and what are none.
func TestStepAtEnds(t *testing.T) {
	ends := []int32{0, 0, 5, 9, 0x7F, 0xD7FF, 0xD900, 0xDFFF, 0xFFFF, 0x10000, 0x10FFFF, 0x10FFFF}
	some, all := made(t, over(api.NPlus, set(ends...))), made(t, over(api.NPlus, set(0, 0x10FFFF)))
	points := []int32{-1, -2, 0x110000, 0x110001, math.MinInt32, math.MinInt32 + 1, math.MaxInt32, math.MaxInt32 - 1, 1 << 30}
	for _, end := range ends {
		points = append(points, end-1, end, end+1)
	}
	for _, r := range points {
		isIn := false
		for pair := range slices.Chunk(ends, 2) {
			isIn = isIn || pair[0] <= r && r <= pair[1]
		}
		isPoint := 0 <= r && r <= 0x10FFFF
		for _, state := range []uint64{begin, 1, begin | 1, math.MaxUint64} {
			if got := some.Step(state, r); (got == 1) != isIn || got > 1 {
				t.Errorf("P13.2: Step(%x, %d) = %x", state, r, got)
			}
			if got := all.Step(state, r); (got == 1) != isPoint || got > 1 {
				t.Errorf("P13.2: Step(%x, %d) = %x of all", state, r, got)
			}
		}
		if some.All([]int32{0, r, 5}) != isIn || all.All([]int32{r, 'a'}) != isPoint || all.All([]int32{'a', r}) != isPoint {
			t.Errorf("P13.2: All with %d", r)
		}
	}
}

// P13.2, P13.3: texts by hand; `-` is the empty one.
func TestAllByHand(t *testing.T) {
	for _, c := range []struct{ e, yes, no string }{
		{"'a", "a", "- b aa ab ba A"}, {"()", "-", "a aa"}, {"[]", "", "- a"}, {".", "a é \U0010FFFF", "- ab"}, {"[^'a]", "b \x00", "- a bb"},
		{"'a 'b", "ab", "- a b ba abb aab"}, {"'a []", "", "- a aa"}, {"'a | 'b 'c | 'd", "a bc d", "- b c ad ac abc"}, {"'a | []", "a", "- aa"},
		{"'a*", "- a aa aaaaaaa", "b ab ba aab"}, {"'a+", "a aa aaaaaaa", "- b ab ba"}, {"'a?", "- a", "aa b"}, {"[]*", "-", "a"}, {"[]+", "", "- a"}, {"[]?", "-", "a"},
		{"('a 'b)*", "- ab abab", "a b aba ba aab"}, {"('a 'b)+", "ab abab", "- a b aba"}, {"('a | 'b)* 'c", "c ac bc abbac", "- a ab ca cc"}, {"('a | 'a 'b) ('b 'c | 'c)", "abc ac abbc", "- ab abcc abbbc"},
		{"'a* 'a 'a", "aa aaa aaaa", "- a b"}, {"('a 'a)* ('a 'a 'a)?", "- aa aaa aaaa aaaaa", "a aab"}, {"('a? 'b?)+", "- a b ab ba bb aabba", "c abc"}, {"('a+ 'b+)*", "- ab aabb abab", "a b ba aba"}, {"('a* 'b)* 'c?", "- b ab c abbc aabaabc", "a ac cb"},
	} {
		e := read(t, c.e)
		a := made(t, e)
		hold := func(list string, want bool) {
			for _, s := range strings.Split(list, " ") {
				text := []int32(strings.TrimPrefix(s, "-"))
				if list != "" && (a.All(text) != want || match.All(e, text) != want) {
					t.Errorf("P13.3: %s, %q: %v", c.e, s, !want)
				}
			}
		}
		hold(c.yes, true)
		hold(c.no, false)
		if a.All(nil) != a.Null() || a.All([]int32{}) != a.Null() || a.Null() != match.Null(e) {
			t.Errorf("P13.3: %s: the empty text", c.e)
		}
	}
}

// P13.2, P13.3: long texts, those too that lead to nothing at once.
func TestLongTexts(t *testing.T) {
	long := slices.Repeat([]int32{'a', 'b'}, 100000)
	for s, want := range map[string]bool{"('a 'b)*": true, "('a 'b)* 'a": false, "('a | 'b)+": true, "'b .*": false, "'a .*": true, "'a 'b 'a": false, "()": false, "[]": false, "('a* 'b*)*": true} {
		if a := made(t, read(t, s)); a.All(long) != want {
			t.Errorf("P13.2: %s: %v", s, !want)
		}
	}
	sixty := made(t, over(api.NStar, row(60)))
	text := append([]int32{'a'}, slices.Repeat([]int32{'b'}, 59)...)
	text = slices.Repeat(text, 50)
	if !sixty.All(text) || sixty.All(text[:len(text)-1]) || sixty.All(text[1:]) {
		t.Error("P13.2: 60 places, one behind the other")
	}
}
