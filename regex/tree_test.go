package regex

import (
	"fmt"
	"math"
	"math/rand"
	"slices"
	"strings"
	"testing"

	"hornbook/api"
)

// isTree holds that e is an expression, or that it is none.
func isTree(t *testing.T, e api.Node, want bool) {
	t.Helper()
	if Is(e) != want || (Print(e) != "") != want {
		t.Errorf("%.300s: Is %v, printed as %.100q", fmt.Sprint(e), Is(e), Print(e))
	}
}

// some tells a good node of each kind.
func some() []api.Node {
	a, x := one(1, 'a'), variable(2, "x")
	return []api.Node{a, x, none(3), over(api.NCat, a, x), over(api.NAlt, x, a), over(api.NStar, a), over(api.NPlus, x), over(api.NOpt, none(0))}
}

// P7.3: kinds, and as many kids as each has.
func TestKidsOfKinds(t *testing.T) {
	counts := map[int]int{api.NSet: 0, api.NVar: 0, api.NNone: 0, api.NCat: 2, api.NAlt: 2, api.NStar: 1, api.NPlus: 1, api.NOpt: 1}
	for kind := -3; kind <= 20; kind++ {
		for kids := range 5 {
			e := api.Node{Kind: kind}
			if kind == api.NVar {
				e.Name = "v"
			}
			for range kids {
				e.Kids = append(e.Kids, none(0))
			}
			want, ok := counts[kind]
			isTree(t, e, ok && want == kids)
		}
	}
	for _, kind := range []int{math.MinInt, math.MaxInt, 1 << 32, 1<<32 + api.NNone, 256 + api.NNone} {
		isTree(t, api.Node{Kind: kind}, false)
	}
	for _, e := range some() {
		isTree(t, e, true)
		e.Kids = append(slices.Clone(e.Kids), none(0))
		isTree(t, e, false)
	}
}

// P7.3: what is wrong somewhere is wrong in all.
func TestKidsCount(t *testing.T) {
	for _, bad := range []api.Node{{}, {Kind: 9}, {Kind: api.NVar}, {Kind: api.NStar}, set(0, 2, 1), {Kind: api.NNone, Name: "x"}} {
		isTree(t, bad, false)
		for _, e := range some() {
			for i := range e.Kids {
				worse := plain(e)
				worse.Kids[i] = bad
				isTree(t, worse, false)
				isTree(t, over(api.NOpt, over(api.NAlt, e, worse)), false)
				isTree(t, over(api.NOpt, over(api.NCat, worse, e)), false)
			}
		}
	}
}

// P7.3: names as a TName's Text.
func TestNamesOfVariables(t *testing.T) {
	long := strings.Repeat("aZ9", 7)[:20]
	for _, name := range []string{"a", "z", "A", "Z", "a0", "Z9", "parent", long} {
		isTree(t, variable(0, name), true)
		if got := Print(variable(0, name)); got != "$"+name {
			t.Errorf("%q", got)
		}
		isTree(t, over(api.NPlus, variable(5, name)), true)
	}
	for _, name := range []string{"", "0", "1a", "_", "a_", "a-b", "-", "$a", "a$", "$", " ", "a ", " a", "a b", "a#", "a#b", "#", "a\n", "\n", "a\t", "a\r", "é", "aé", "a\x00", "a'b", "a(", "a|b", "a.", "\xFF", "a\xFF", "@", "[", "`", "{", "/", ":", long + "a", long + "1", long + " ", strings.Repeat("a", 1000000), strings.Repeat("\n", 1000000)} {
		isTree(t, variable(0, name), false)
		isTree(t, over(api.NPlus, variable(5, name)), false)
	}
}

// P7.3: sets as uniset's Is, of at most MaxRanges.
func TestSetsOfTrees(t *testing.T) {
	for _, ends := range [][]int32{{}, {0, 0}, {0, 0x10FFFF}, {0x10FFFF, 0x10FFFF}, {1, 2, 4, 5}, {0xD800, 0xDFFF}, {0, 0, 2, 0x10FFFF}} {
		isTree(t, set(0, ends...), true)
	}
	for _, ends := range [][]int32{{2, 1}, {-1, 0}, {-1, -1}, {0, 0x110000}, {0x110000, 0x110000}, {1, 2, 3, 4}, {1, 2, 2, 4}, {5, 6, 1, 2}, {1, 2, 1, 2}, {1, 9, 3, 4}, {math.MinInt32, math.MaxInt32}} {
		isTree(t, set(0, ends...), false)
	}
	var many []int32
	for i := range int32(201) {
		many = append(many, 3*i, 3*i+1)
	}
	isTree(t, set(0, many[:400]...), true)
	isTree(t, set(0, many...), false)
	isTree(t, over(api.NStar, set(0, many...)), false)
	huge := api.Node{Kind: api.NSet, Set: make([]api.Range, 1000000)}
	isTree(t, huge, false)
}

// P7.3: all else is zero, but At.
func TestAllElseIsZero(t *testing.T) {
	for _, e := range some() {
		for _, at := range []int{0, -1, 7, math.MaxInt, math.MinInt} {
			e.At = at
			isTree(t, e, true)
		}
		if e.Kind != api.NSet {
			other := plain(e)
			other.Set = []api.Range{{Lo: 1, Hi: 2}}
			isTree(t, other, false)
			other.Set = []api.Range{}
			isTree(t, other, true)
		}
		if e.Kind != api.NVar {
			other := plain(e)
			other.Name = "x"
			isTree(t, other, false)
		}
		if len(e.Kids) == 0 {
			other := plain(e)
			other.Kids = []api.Node{}
			isTree(t, other, true)
		}
	}
}

// deep tells an expression of n nodes, each within the next.
func deep(n int, kind int) api.Node {
	e := one(0, 'a')
	for range n - 1 {
		e = over(kind, e)
	}
	return e
}

// wide tells an expression of n sets (2n - 1 nodes) that is as flat as can be.
func wide(n int) api.Node {
	if n == 1 {
		return one(0, 'a')
	}
	return over(api.NCat, wide(n/2), wide(n-n/2))
}

// P7.3: at most 400 nodes in all.
func TestNodesInAll(t *testing.T) {
	isTree(t, deep(399, api.NStar), true)
	isTree(t, deep(400, api.NPlus), true)
	isTree(t, deep(401, api.NOpt), false)
	isTree(t, wide(200), true)
	isTree(t, over(api.NStar, wide(200)), true)
	isTree(t, over(api.NStar, over(api.NStar, wide(200))), false)
	isTree(t, wide(201), false)
	isTree(t, over(api.NAlt, wide(100), wide(100)), true)
	isTree(t, over(api.NAlt, deep(200, api.NOpt), deep(199, api.NOpt)), true)
	isTree(t, over(api.NAlt, deep(200, api.NOpt), deep(200, api.NOpt)), false)
	long := over(api.NStar, over(api.NAlt, one(0, 'a'), none(0)))
	for range 66 {
		long = over(api.NCat, long, over(api.NStar, over(api.NAlt, one(0, 'a'), none(0))))
	}
	isTree(t, long, true) // 67 * 4 + 66
	isTree(t, deep(100000, api.NStar), false)
}

// P7.3: Is ends early where a tree is much greater than what it is made of.
func TestGreatTrees(t *testing.T) {
	double := one(0, 'a')
	for range 200 {
		double = over(api.NCat, double, double)
	}
	isTree(t, double, false)
	circle := []api.Node{{Kind: api.NStar}}
	circle[0].Kids = circle
	isTree(t, circle[0], false)
	isTree(t, api.Node{Kind: api.NCat, Kids: make([]api.Node, 1000000)}, false)
}

// P7.3: what each kind is printed as.
func TestPrint(t *testing.T) {
	a, b, x := one(9, 'a'), one(8, 'b'), variable(7, "xY1")
	for want, e := range map[string]api.Node{
		`['\u{61}]`: a, "$xY1": x, "()": none(5), "[]": set(4),
		`['\u{0}]`: one(0, 0), `['\u{10FFFF}]`: one(0, 0x10FFFF), `['\u{0}-'\u{10FFFF}]`: set(0, 0, 0x10FFFF), `['\u{A}-'\u{B} '\u{D} '\u{ABCD}-'\u{ABCE}]`: set(0, 10, 11, 13, 13, 0xABCD, 0xABCE), `['\u{D800}-'\u{DFFF}]`: set(0, 0xD800, 0xDFFF),
		`(['\u{61}] ['\u{62}])`: over(api.NCat, a, b), `(['\u{61}] | $xY1)`: over(api.NAlt, a, x),
		`(['\u{61}])*`: over(api.NStar, a), "($xY1)+": over(api.NPlus, x), "(())?": over(api.NOpt, none(0)),
		`((['\u{61}] ['\u{62}]) $xY1)`: over(api.NCat, over(api.NCat, a, b), x), `(['\u{61}] (['\u{62}] $xY1))`: over(api.NCat, a, over(api.NCat, b, x)),
		`((['\u{61}] | ['\u{62}]) | $xY1)`: over(api.NAlt, over(api.NAlt, a, b), x), `(['\u{61}] | (['\u{62}] | $xY1))`: over(api.NAlt, a, over(api.NAlt, b, x)),
		"((((())*)+)?)*":           over(api.NStar, over(api.NOpt, over(api.NPlus, over(api.NStar, none(0))))),
		`((['\u{61}] | $xY1))*`:    over(api.NStar, over(api.NAlt, a, x)),
		`(($xY1)? | (($xY1 []))+)`: over(api.NAlt, over(api.NOpt, x), over(api.NPlus, over(api.NCat, x, set(0)))),
	} {
		if got := Print(e); got != want {
			t.Errorf("%v is printed as %q, want %q", e, got, want)
		}
	}
}

// P7.3: alike, but for places.
func TestSame(t *testing.T) {
	trees := append(some(), api.Node{}, set(0), one(0, 'b'), set(0, 'a', 'b'), set(0, 'a', 'a', 'c', 'c'), set(0, 'c', 'c', 'a', 'a'), variable(0, "y"), variable(0, ""), variable(0, "X"),
		over(api.NCat, variable(0, "x"), one(0, 'a')), over(api.NStar, over(api.NStar, one(0, 'a'))), over(api.NStar, one(0, 'b')), over(api.NPlus, one(0, 'a')), over(api.NOpt, one(0, 'a')),
		api.Node{Kind: 99}, api.Node{Kind: api.NNone, Name: "x"}, api.Node{Kind: api.NNone, Set: one(0, 'a').Set}, api.Node{Kind: api.NCat, Kids: []api.Node{none(0)}}, api.Node{Kind: api.NCat, Kids: []api.Node{none(0), none(0)}}, api.Node{Kind: api.NCat},
		api.Node{Kind: api.NCat, Kids: []api.Node{none(0), none(0), none(0)}}, api.Node{Kind: api.NSet, Kids: []api.Node{none(0)}}, wide(5), wide(6), deep(7, api.NOpt), deep(8, api.NOpt))
	for i, a := range trees {
		for j, b := range trees {
			if Same(a, elsewhere(b, 100)) != (i == j) || Same(elsewhere(a, -3), b) != (i == j) {
				t.Errorf("Same(%v, %v)", a, b)
			}
		}
	}
	if !Same(api.Node{Kind: api.NNone, Set: []api.Range{}, Kids: []api.Node{}}, none(0)) {
		t.Error("an empty list is not a nil one")
	}
}

// elsewhere tells a tree of which each place is another.
func elsewhere(e api.Node, by int) api.Node {
	out := plain(e)
	out.At += by
	for i, kid := range out.Kids {
		out.Kids[i] = elsewhere(kid, 3*by+i)
	}
	return out
}

// P7.3: what is unlike anywhere is unlike.
func TestSameAnywhere(t *testing.T) {
	source := rand.New(rand.NewSource(3))
	for range 2000 {
		e := randomTree(source, 1+source.Intn(12))
		other := plain(e)
		spot := anyNode(source, &other)
		switch source.Intn(4) {
		case 0:
			spot.Kind++
		case 1:
			spot.Name += "x"
		case 2:
			spot.Set = append(spot.Set, api.Range{Lo: 0x10000, Hi: 0x10000})
		case 3:
			spot.Kids = append(spot.Kids, none(0))
		}
		if Same(e, other) || Same(other, e) || !Same(e, elsewhere(e, 5)) || !Same(other, elsewhere(other, 5)) {
			t.Fatalf("%v, %v", e, other)
		}
	}
}

// anyNode tells one of a tree's nodes.
func anyNode(source *rand.Rand, e *api.Node) *api.Node {
	for len(e.Kids) > 0 && source.Intn(3) > 0 {
		e = &e.Kids[source.Intn(len(e.Kids))]
	}
	return e
}

// randomTree tells an expression with a number of nodes that hangs on size.
func randomTree(source *rand.Rand, size int) api.Node {
	at := source.Intn(100)
	if size > 2 && source.Intn(3) > 0 {
		left := 1 + source.Intn(size-2)
		kids := []api.Node{randomTree(source, left), randomTree(source, size-1-left)}
		return api.Node{Kind: api.NCat + source.Intn(2), At: at, Kids: kids}
	}
	if size > 1 {
		return api.Node{Kind: api.NStar + source.Intn(3), At: at, Kids: []api.Node{randomTree(source, size-1)}}
	}
	switch source.Intn(4) {
	case 0:
		return none(at)
	case 1:
		return variable(at, string(rune('a'+source.Intn(3)))+strings.Repeat("Z", source.Intn(2)))
	}
	var ends []int32
	low := int32(source.Intn(100))
	for range source.Intn(4) {
		high := low + int32(source.Intn(3))
		ends = append(ends, low, high)
		low = high + 2 + int32(source.Intn(1000))
	}
	return set(at, ends...)
}

// P7.3: how many NSet, and which names, against going through a tree by calls.
func TestPlacesAndNames(t *testing.T) {
	var places int
	var names []string
	var count func(e api.Node)
	count = func(e api.Node) {
		if e.Kind == api.NSet {
			places++
		}
		if e.Kind == api.NVar && !slices.Contains(names, e.Name) {
			names = append(names, e.Name)
		}
		for _, kid := range e.Kids {
			count(kid)
		}
	}
	source := rand.New(rand.NewSource(4))
	for range 2000 {
		e := randomTree(source, 1+source.Intn(30))
		places, names = 0, nil
		count(e)
		slices.Sort(names)
		if Places(e) != places || !slices.Equal(Names(e), names) {
			t.Fatalf("%v: %d, %q, want %d, %q", e, Places(e), Names(e), places, names)
		}
	}
}

// P7.3: names that stand twice, byte by byte; places that are empty, or alike.
func TestPlacesAndNamesByHand(t *testing.T) {
	for s, want := range map[string]struct {
		places int
		names  string
	}{
		"()": {0, ""}, "'a": {1, ""}, "[]": {1, ""}, ".": {1, ""}, "$x": {0, "x"}, "$x $x": {0, "x"}, "$b $a $b $a $c": {0, "a b c"}, "$b | $B | $a1 | $a | $A": {0, "A B a a1 b"}, "$aa $a $aaa $ab $a": {0, "a aa aaa ab"},
		"'a 'a 'a": {3, ""}, "['a'c'e] {Digit}* | ([^]+ $z)?": {3, "z"}, "(($q))*": {0, "q"}, "'a|$x 'b": {2, "x"}, "$x10 $x2 $x1 $x": {0, "x x1 x10 x2"},
	} {
		e, _, err := Parse(s)
		if err != api.OK || Places(e) != want.places || strings.Join(Names(e), " ") != want.names {
			t.Errorf("%s: %d, %q, %v", s, Places(e), Names(e), err)
		}
	}
	if Places(api.Node{}) != 0 || len(Names(api.Node{})) != 0 || len(Names(api.Node{Kind: api.NSet, Name: "x"})) != 0 {
		t.Error("of nothing")
	}
}

// What is no expression is gone through as well, to its ends.
func TestOfNoExpression(t *testing.T) {
	odd := api.Node{Kind: 77, Kids: []api.Node{{Kind: api.NSet, Set: []api.Range{{Lo: 9, Hi: 1}}, Kids: []api.Node{one(0, 'a')}}, {Kind: api.NVar, Name: "-", Kids: []api.Node{variable(0, "b"), variable(0, "a")}}, {}}}
	if Is(odd) || Print(odd) != "" || Places(odd) != 2 || strings.Join(Names(odd), ",") != "-,a,b" || !Same(odd, odd) {
		t.Errorf("%d, %q", Places(odd), Names(odd))
	}
	nested := deep(1<<16, api.NStar)
	if Is(nested) || Places(nested) != 1 || !Same(nested, nested) || Same(nested, deep(1<<16-1, api.NStar)) || len(Names(nested)) != 0 {
		t.Error("of what is nested deep")
	}
}

// P7.4: what is printed is read as the same, where it isn't nested too deep.
func TestAgain(t *testing.T) {
	source := rand.New(rand.NewSource(5))
	counts := [2]int{}
	for i := range 4000 {
		e := randomTree(source, 1+source.Intn(10+i/20))
		printed := Print(e)
		if printed != definedPrint(e) {
			t.Fatalf("%v is printed as %s", e, printed)
		}
		again, at, err := Parse(printed)
		if isDeep(printed) {
			counts[1]++
			if err != api.ErrDeep || at == 0 {
				t.Fatalf("%s is read with %v at %d", printed, err, at)
			}
			continue
		}
		counts[0]++
		if err != api.OK || at != 0 || !Same(e, again) || Print(again) != printed {
			t.Fatalf("%s is read as %v, %d, %v", printed, again, at, err)
		}
	}
	if counts[0] < 1000 || counts[1] < 10 {
		t.Errorf("%v", counts)
	}
}

// P7.4: nested as deep as it may be, and one deeper; sets as large as they may
// be.
func TestAgainAtTheBounds(t *testing.T) {
	for _, kind := range []int{api.NStar, api.NPlus, api.NOpt} {
		e := deep(21, kind)
		again, at, err := Parse(Print(e))
		if err != api.OK || at != 0 || !Same(e, again) {
			t.Errorf("%v, %d, %v", again, at, err)
		}
		if _, at, err := Parse(Print(deep(22, kind))); err != api.ErrDeep || at != 20 {
			t.Errorf("%d, %v", at, err)
		}
	}
	for _, s := range []string{"[" + characters(200, 0x1000) + "]", "[^" + characters(199, 0x1000) + "]", "[^" + characters(200, 0) + "]", "['\\u{D7FF}-'\\u{E000}]", "[^]", "[]"} {
		e, _, err := Parse(s)
		again, at, errAgain := Parse(Print(e))
		if err != api.OK || errAgain != api.OK || at != 0 || !Same(e, again) || !slices.Equal(e.Set, again.Set) {
			t.Errorf("%.40s: %v, %v, %d", s, err, errAgain, at)
		}
	}
	if e := over(api.NStar, wide(200)); !Is(e) {
		t.Error("it has 400 nodes")
	} else if again, _, err := Parse(Print(e)); err != api.OK || !Same(e, again) {
		t.Errorf("%v", err)
	}
}
