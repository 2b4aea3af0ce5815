package merge

import (
	"fmt"
	"slices"
	"strings"
	"testing"

	"hornbook/api"
	"hornbook/source"
)

// rule tells a rule of a number, with nothing on its sides.
func rule(n int) api.Rule { return api.Rule{N: n, Left: none(0), Right: none(0)} }

// rules tells so many rules, rising.
func rules(n int) []api.Rule {
	var l []api.Rule
	for i := range n {
		l = append(l, rule(i))
	}
	return l
}

// words tells so many words, rising.
func words(n int) []string {
	var l []string
	for i := range n {
		l = append(l, fmt.Sprintf("w%03d", i))
	}
	return l
}

// row tells an expression of so many places.
func row(n int) api.Node {
	e := one(0, 'a')
	for range n - 1 {
		e = over(api.NCat, e, one(0, 'a'))
	}
	return e
}

// nested tells an expression of so many nodes.
func nested(n int) api.Node {
	e := none(0)
	for range n - 1 {
		e = over(api.NStar, e)
	}
	return e
}

// ranges tells a set of so many ranges.
func ranges(n int) api.Node {
	e := api.Node{Kind: api.NSet}
	for i := range n {
		e.Set = append(e.Set, api.Range{Lo: int32(3 * i), Hi: int32(3*i + 1)})
	}
	return e
}

// P12.2: books that are made by hand.
func TestIs(t *testing.T) {
	for i, b := range []api.Book{
		{},
		{Rules: []api.Rule{}, Skip: []string{}},
		{Rules: rules(1)},
		{Rules: []api.Rule{rule(0), rule(9999)}},
		{Rules: rules(30), Skip: words(30)},
		{Skip: []string{"a", "aa", "b", "é", "\U00010000"}},
		{Skip: []string{strings.Repeat("é", 20)}},
		{Skip: []string{"\x00", "\r", "\uFFFD"}},
		{Rules: []api.Rule{{N: 1, Left: row(60), Right: row(60)}, {N: 2, Left: row(60), Right: row(60)}}},
		{Rules: []api.Rule{{N: 1, Left: nested(400), Right: ranges(200)}}},
		{Rules: []api.Rule{{N: 1, Break: true, Left: api.Node{Kind: api.NSet, Set: []api.Range{}, Kids: []api.Node{}}, Right: none(0)}}},
	} {
		if !isKnown(t, b) {
			t.Errorf("P12.2: row %d: %v is none", i, b)
		}
	}
}

// sides tells books that have e on one side of a rule, and on the other.
func sides(e api.Node) []api.Book {
	return []api.Book{{Rules: []api.Rule{{N: 1, Left: e, Right: none(0)}}}, {Rules: []api.Rule{rule(0), {N: 1, Left: none(0), Right: e}}}}
}

// P12.2: books that are made by hand, and are none; nothing is printed of them.
func TestIsNone(t *testing.T) {
	none := none(0)
	bad := []api.Book{
		{Rules: []api.Rule{rule(2), rule(1)}},
		{Rules: []api.Rule{rule(1), rule(1)}},
		{Rules: []api.Rule{rule(1), rule(3), rule(2)}},
		{Rules: []api.Rule{rule(3), rule(1), rule(2)}},
		{Rules: []api.Rule{rule(-1), rule(1)}},
		{Rules: []api.Rule{rule(1), rule(10000)}},
		{Rules: rules(31)},
		{Skip: []string{"b", "a"}},
		{Skip: []string{"a", "a"}},
		{Skip: []string{"aa", "a"}},
		{Skip: []string{"\U00010000", "\uFFFD"}},
		{Skip: []string{"é", "z"}},
		{Skip: []string{"a", "c", "b"}},
		{Skip: []string{""}},
		{Skip: []string{"", "a"}},
		{Skip: []string{"\xFF"}},
		{Skip: []string{"a\nb"}},
		{Skip: []string{strings.Repeat("a", 21)}},
		{Skip: words(31)},
		{Rules: rules(30), Skip: words(31)},
		{Rules: rules(31), Skip: words(30)},
	}
	for _, e := range []api.Node{
		{},
		{Kind: 9},
		{Kind: api.NNone, At: 1},
		{Kind: api.NNone, At: -1},
		one(7, 'a'),
		over(api.NCat, none, one(7, 'a')),
		over(api.NStar, over(api.NAlt, over(api.NOpt, none), api.Node{Kind: api.NNone, At: 3})),
		{Kind: api.NVar, Name: "a"},
		over(api.NPlus, over(api.NCat, none, api.Node{Kind: api.NVar, Name: "a"})),
		{Kind: api.NVar},
		{Kind: api.NNone, Name: "a"},
		{Kind: api.NCat, Kids: []api.Node{none}},
		{Kind: api.NStar},
		{Kind: api.NNone, Kids: []api.Node{none}},
		{Kind: api.NSet, Set: []api.Range{{Lo: 'b', Hi: 'a'}}},
		{Kind: api.NSet, Set: []api.Range{{Lo: 'a', Hi: 'a'}, {Lo: 'b', Hi: 'b'}}},
		{Kind: api.NSet, Set: []api.Range{{Lo: 0, Hi: 0x110000}}},
		over(api.NAlt, none, api.Node{}),
		row(61), nested(401), ranges(201), nested(50000),
	} {
		bad = append(bad, sides(e)...)
	}
	for i, b := range bad {
		if isKnown(t, b) || Print(b) != "" {
			t.Errorf("P12.2: row %d: %.300s is one", i, fmt.Sprint(b))
		}
	}
}

// P12.2: the place of each node counts, wherever it is in a book.
func TestEachPlaceCounts(t *testing.T) {
	b := bookOf(t, "1: ('a | 'b)* 'c >< 'd? ()\n2: 'e+ <>\n3: <> 'f (('g | ()) ())")
	places := 0
	var try func(e *api.Node)
	try = func(e *api.Node) {
		for _, at := range []int{1, -1, 1 << 40} {
			e.At = at
			if Is(b) || Print(b) != "" {
				t.Errorf("P12.2: %v is a book", b)
			}
		}
		e.At = 0
		places++
		for i := range e.Kids {
			try(&e.Kids[i])
		}
	}
	for i := range b.Rules {
		try(&b.Rules[i].Left)
		try(&b.Rules[i].Right)
	}
	if !Is(b) || places != 21 {
		t.Errorf("P12.2: %v, %d places", b, places)
	}
}

// P12.2: books that differ in one thing alone are not the same; places are
// nothing.
func TestSame(t *testing.T) {
	base := "1: 'a 'b >< 'c*\n4: <> 'd | 'e\nskip \"a\"\nskip \"c\""
	b := bookOf(t, base)
	for _, other := range []string{
		"", "skip \"a\"\nskip \"c\"", "1: 'a 'b >< 'c*\n4: <> 'd | 'e",
		strings.Replace(base, "1:", "2:", 1),
		strings.Replace(base, "4:", "5:", 1),
		strings.Replace(base, "><", "<>", 1),
		strings.Replace(base, "<>", "><", 1),
		strings.Replace(base, "'a", "'A", 1),
		strings.Replace(base, "'a 'b", "'a | 'b", 1),
		strings.Replace(base, "'a 'b", "'a 'b 'b", 1),
		strings.Replace(base, "'c*", "'c+", 1),
		strings.Replace(base, "'e", "['e-'f]", 1),
		strings.Replace(base, "'e", "['e 'g]", 1),
		strings.Replace(base, "<>", "() () <>", 1),
		strings.Replace(base, "\"a\"", "\"b\"", 1),
		strings.Replace(base, "\"c\"", "\"cc\"", 1),
		strings.Replace(base, "\"c\"", "\"C\"", 1),
		base + "\nskip \"b\"", base + "\n5: ><", base + "\n0: ><",
		strings.Replace(base, "skip \"a\"\n", "", 1),
		strings.Replace(base, "1: 'a 'b >< 'c*\n", "", 1),
	} {
		c := bookOf(t, other)
		if Same(b, c) || Same(c, b) || !Same(c, c) {
			t.Errorf("P12.2: %q is as %q", other, base)
		}
	}
	for _, other := range []string{
		"\n\n  4: <> ('d | 'e)\n\n1:'a'b><'c*#\nskip \"c\"\nskip \"a\"",
		"$x = 'a 'b\n1: $x >< 'c*\n4: () <> 'd | 'e\nskip \"a\"\nskip \"c\"",
		"parent en\ndrop 7\nkeep \"z\"\n" + base,
	} {
		c := bookOf(t, other)
		if !Same(b, c) || !Same(c, b) {
			t.Errorf("P12.2: %q isn't as %q", other, base)
		}
	}
}

// P12.2: what is no book can be the same, too, places or not; in another order
// it isn't.
func TestSameOfNone(t *testing.T) {
	if !Same(api.Book{}, api.Book{Rules: []api.Rule{}, Skip: []string{}}) {
		t.Error("P12.2: nil and empty lists are the same")
	}
	placed := bookOf(t, "1: 'a ><")
	placed.Rules[0].Left.At, placed.Rules[0].Right.At = 5, 6
	if plain := bookOf(t, "1: 'a ><"); !Same(placed, plain) || !Same(plain, placed) || Is(placed) {
		t.Error("P12.2: places are nothing to Same")
	}
	for _, b := range []api.Book{{Rules: []api.Rule{rule(2), rule(1)}, Skip: []string{"b", "a"}}, {Rules: []api.Rule{rule(-1), {}}, Skip: []string{"\n", ""}}} {
		turned := api.Book{Rules: slices.Clone(b.Rules), Skip: b.Skip}
		slices.Reverse(turned.Rules)
		if !Same(b, b) || Same(b, turned) || Same(turned, b) {
			t.Errorf("P12.2: %v", b)
		}
		turned = api.Book{Rules: b.Rules, Skip: slices.Clone(b.Skip)}
		slices.Reverse(turned.Skip)
		if Same(b, turned) || Same(turned, b) {
			t.Errorf("P12.2: %v", b)
		}
	}
	if Same(api.Book{Rules: rules(3)}, api.Book{Rules: rules(2)}) || Same(api.Book{Skip: words(2)}, api.Book{Skip: words(3)}) {
		t.Error("P12.2: one more")
	}
}

// P12.2: what is printed is source's, and read again it makes the same book.
func TestPrint(t *testing.T) {
	for _, texts := range [][]string{
		{}, {""}, {"1: ><"}, {"skip \"a\\\"\\\\b\""}, {"2: 'a* | 'b <> ['x-'z]\n1: <> .", "skip \"b\"\n3: ><", "skip \"a\""},
		{lines("%d: ><", 100, 30), lines("skip \"%d\"", 100, 30)},
	} {
		b := bookOf(t, texts...)
		printed := Print(b)
		if want := source.Print(api.Source{Rules: b.Rules, Skip: b.Skip}); printed != want || printed != definedPrint(b) {
			t.Errorf("P12.2: %q, want %q", printed, want)
		}
		if again := bookOf(t, printed); !Same(again, b) || Print(again) != printed {
			t.Errorf("P12.2: %q is read as %v", printed, again)
		}
	}
	long := bookOf(t, lines("skip \""+strings.Repeat("é", 15)+"%d\"", 1000, 30), lines("%d: 'a 'b 'c 'd 'e 'f 'g ><", 1000, 30))
	if printed := Print(long); len(printed) <= api.MaxSource || printed != definedPrint(long) {
		t.Errorf("P12.2: %d bytes: %q", len(printed), printed)
	}
}
