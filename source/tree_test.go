package source

import (
	"fmt"
	"reflect"
	"strings"
	"testing"

	"hornbook/api"
	"hornbook/regex"
)

// rule tells a rule of a number, with nothing on its sides.
func rule(n int) api.Rule { return api.Rule{N: n, Left: none(0), Right: none(0)} }

// both tells a source that has e on one side of a rule, one with it on the
// other, and one with a variable that is e.
func both(e api.Node) []api.Source {
	return []api.Source{
		{Rules: []api.Rule{{N: 1, Left: e, Right: none(0)}}},
		{Rules: []api.Rule{{N: 1, Left: none(0), Right: e}}},
		{Vars: []api.Var{{Name: "a", E: e}}},
	}
}

// row tells an expression of so many places.
func row(n int) api.Node {
	e := one(0, 'a')
	for range n - 1 {
		e = over(api.NCat, e, one(0, 'a'))
	}
	return e
}

// many tells a list of so many, each made of its number.
func many[T any](n int, of func(int) T) []T {
	var list []T
	for i := range n {
		list = append(list, of(i))
	}
	return list
}

func word(i int) string { return fmt.Sprint("w", i) }

func number(i int) int { return i }

func variable(i int) api.Var { return api.Var{Name: word(i), E: none(0)} }

// isPrinted holds that x is a source, that it is printed so, and that Rules
// tells its rules, rising.
func isPrinted(t *testing.T, x api.Source, want string) {
	t.Helper()
	if !Is(x) {
		t.Errorf("P10.3: %v isn't Is", x)
	}
	if got := Print(x); got != want {
		t.Errorf("P10.3: Print(%v) = %q, want %q", x, got, want)
	}
	rules, err := Rules(x)
	if err != api.OK || len(rules) != len(x.Rules) {
		t.Fatalf("P10.3: Rules(%v) = %v, %v", x, rules, err)
	}
	for i, r := range rules {
		if i > 0 && rules[i-1].N >= r.N {
			t.Errorf("P10.3: Rules(%v) = %v", x, rules)
		}
		isThere := false
		for _, its := range plainRules(x.Rules) {
			isThere = isThere || reflect.DeepEqual(plainRules([]api.Rule{r})[0], its)
		}
		if !isThere {
			t.Errorf("P10.3: %v isn't one of %v", r, x)
		}
	}
}

// isGood holds that x is a source, and that something is told of it.
func isGood(t *testing.T, x api.Source) {
	t.Helper()
	if rules, err := Rules(x); !Is(x) || Print(x) == "" || err != api.OK || len(rules) != len(x.Rules) {
		t.Errorf("P10.3: of %.500s: %v, %q, %v, %v", fmt.Sprint(x), Is(x), Print(x), rules, err)
	}
}

// isBad holds that x is no source, and that nothing is told of it.
func isBad(t *testing.T, x api.Source) {
	t.Helper()
	if rules, err := Rules(x); Is(x) || Print(x) != "" || err != api.ErrForm || len(rules) != 0 {
		t.Errorf("P10.3: of %.500s: %v, %q, %v, %v", fmt.Sprint(x), Is(x), Print(x), rules, err)
	}
}

// P10.3: a source without anything, its lists nil or empty.
func TestNothing(t *testing.T) {
	isPrinted(t, api.Source{}, "")
	isPrinted(t, api.Source{Vars: []api.Var{}, Rules: []api.Rule{}, Drop: []int{}, Skip: []string{}, Keep: []string{}}, "")
}

// P10.3: how each is printed, and in which order.
func TestPrint(t *testing.T) {
	a, b := one(7, 'a'), one(-3, 0x10FFFF)
	x := api.Source{
		Parent: "zh-Hant-TW",
		Vars:   []api.Var{{Name: "z", E: over(api.NCat, a, b)}, {Name: "B2", E: none(9)}},
		Rules: []api.Rule{
			{N: 20, Left: a, Right: over(api.NStar, b)},
			{N: 3, Break: true, Left: none(0), Right: none(5)},
			{N: 9999, Left: over(api.NAlt, a, none(0)), Right: none(0)},
			{N: 0, Break: true, Left: api.Node{Kind: api.NSet}, Right: over(api.NOpt, over(api.NPlus, a))},
		},
		Drop: []int{9999, 0, 20},
		Skip: []string{"z", "Mr.", `a"b\c`},
		Keep: []string{"é€\U0001F600", " # ", `\"`, "\r\t\x00"},
	}
	isPrinted(t, x, `parent zh-Hant-TW
$z = (['\u{61}] ['\u{10FFFF}])
$B2 = ()
drop 9999
drop 0
drop 20
20: ['\u{61}] >< (['\u{10FFFF}])*
3: () <> ()
9999: (['\u{61}] | ()) >< ()
0: [] <> ((['\u{61}])+)?
keep "é€`+"\U0001F600"+`"
keep " # "
keep "\\\""
keep "`+"\r\t\x00"+`"
skip "z"
skip "Mr."
skip "a\"b\\c"
`)
	for _, c := range []struct {
		x    api.Source
		want string
	}{
		{api.Source{Parent: "en"}, "parent en\n"}, {api.Source{Vars: []api.Var{{Name: "a", E: a}}}, "$a = ['\\u{61}]\n"}, {api.Source{Drop: []int{7}}, "drop 7\n"}, {api.Source{Rules: []api.Rule{rule(7)}}, "7: () >< ()\n"}, {api.Source{Keep: []string{"a"}}, "keep \"a\"\n"}, {api.Source{Skip: []string{"a"}}, "skip \"a\"\n"},
	} {
		isPrinted(t, c.x, c.want)
	}
	back := api.Range{Lo: 0x61, Hi: 0x7A}
	isPrinted(t, api.Source{Rules: []api.Rule{{N: 1, Left: api.Node{Kind: api.NSet, Set: []api.Range{{Lo: 0, Hi: 0}, back}}, Right: none(0)}}}, "1: ['\\u{0} '\\u{61}-'\\u{7A}] >< ()\n")
}

// P10.3: a parent is "" or a tag, canonical, but root.
func TestIsParent(t *testing.T) {
	for _, s := range []string{"en", "deu", "zh-Hant-TW", "es-419", "sl-rozaj-1994", "en-Root"} {
		isPrinted(t, api.Source{Parent: s}, "parent "+s+"\n")
	}
	for _, s := range []string{"root", "ROOT", "Root", "EN", "en_US", "en-us", "en-latn", "e", "engl", "en-", "-en", "en ", " en", "en\n", "en#", "\xff", "é", "en-posix-posix", "en-US en-US", strings.Repeat("a", 41)} {
		isBad(t, api.Source{Parent: s})
		isBad(t, api.Source{Parent: s, Rules: []api.Rule{rule(1)}})
	}
}

// P10.3: names as a TName's Text, each once, MaxVars of them.
func TestIsVars(t *testing.T) {
	for _, name := range []string{"a", "Z", "z9", "A1b2C3", "parent", strings.Repeat("a", 20)} {
		isPrinted(t, api.Source{Vars: []api.Var{{Name: name, E: none(0)}}}, "$"+name+" = ()\n")
	}
	for _, name := range []string{"", "1", "1a", "$a", "a ", " a", "a b", "a-b", "a_b", "a#", "a\n", "a\r", "é", "aé", "\xff", "a\x00", "a = 'b #", strings.Repeat("a", 21)} {
		isBad(t, api.Source{Vars: []api.Var{{Name: name, E: none(0)}}})
		isBad(t, api.Source{Vars: []api.Var{variable(1), {Name: name, E: none(0)}}})
	}
	isGood(t, api.Source{Vars: []api.Var{{Name: "a", E: none(0)}, {Name: "A", E: none(0)}, {Name: "aa", E: none(0)}}})
	isBad(t, api.Source{Vars: []api.Var{variable(1), variable(1)}})
	isBad(t, api.Source{Vars: []api.Var{variable(1), variable(2), {Name: "w1", E: row(3)}}})
	isGood(t, api.Source{Vars: many(20, variable)})
	isBad(t, api.Source{Vars: many(21, variable)})
	isBad(t, api.Source{Vars: append(many(19, variable), variable(0))})
}

// P10.3: E, Left, Right are expressions without variables, of at most MaxPlaces
// places.
func TestIsExpressions(t *testing.T) {
	stars := func(n int) api.Node {
		e := one(0, 'a')
		for range n - 1 {
			e = over(api.NStar, e)
		}
		return e
	}
	full := api.Node{Kind: api.NSet}
	for i := range int32(200) {
		full.Set = append(full.Set, api.Range{Lo: 3 * i, Hi: 3*i + 1})
	}
	more := full
	more.Set = append(more.Set[:200:200], api.Range{Lo: 1000, Hi: 1000})
	for _, e := range []api.Node{none(0), none(-5), one(1<<40, 'a'), {Kind: api.NSet}, {Kind: api.NNone, Kids: []api.Node{}, Set: []api.Range{}}, row(59), row(60), over(api.NAlt, row(30), row(30)), stars(400), full} {
		for _, x := range both(e) {
			isGood(t, x)
		}
	}
	v := api.Node{Kind: api.NVar, Name: "a"}
	deep := one(0, 'a')
	for range 1 << 16 {
		deep = over(api.NCat, deep, none(0))
	}
	for _, e := range []api.Node{
		{}, {Kind: 9}, {Kind: -1}, v, {Kind: api.NVar}, over(api.NStar, v), over(api.NCat, one(0, 'a'), over(api.NOpt, v)), {Kind: api.NNone, Name: "a"}, {Kind: api.NNone, Set: full.Set[:1]}, {Kind: api.NStar}, {Kind: api.NCat, Kids: []api.Node{none(0)}}, over(api.NStar, none(0), none(0)), over(api.NCat, none(0), api.Node{}), over(api.NNone, none(0)),
		{Kind: api.NSet, Set: []api.Range{{Lo: 5, Hi: 4}}}, {Kind: api.NSet, Set: []api.Range{{Lo: -1, Hi: 4}}}, {Kind: api.NSet, Set: []api.Range{{Lo: 0, Hi: 0x110000}}}, {Kind: api.NSet, Set: []api.Range{{Lo: 5, Hi: 6}, {Lo: 7, Hi: 8}}}, more,
		row(61), over(api.NAlt, row(30), row(31)), row(200), row(1000), stars(401), deep,
	} {
		for _, x := range both(e) {
			isBad(t, x)
		}
	}
}

// P10.3: numbers from 0 to 9999, rules' and drops' each once among themselves,
// MaxRules of each.
func TestIsNumbers(t *testing.T) {
	for _, n := range []int{0, 1, 9, 10, 4711, 9998, 9999} {
		isPrinted(t, api.Source{Rules: []api.Rule{rule(n)}, Drop: []int{n}}, fmt.Sprintf("drop %d\n%d: () >< ()\n", n, n))
	}
	for _, n := range []int{-1, -9999, 10000, 10001, 1 << 32, 1<<63 - 1, -1 << 63} {
		isBad(t, api.Source{Rules: []api.Rule{rule(n)}})
		isBad(t, api.Source{Rules: []api.Rule{rule(1), rule(n)}})
		isBad(t, api.Source{Drop: []int{n}})
		isBad(t, api.Source{Drop: []int{1, n}})
	}
	isBad(t, api.Source{Rules: []api.Rule{rule(1), rule(1)}})
	isBad(t, api.Source{Rules: []api.Rule{rule(1), rule(2), {N: 1, Break: true, Left: row(2), Right: none(0)}}})
	isBad(t, api.Source{Drop: []int{3, 3}})
	isBad(t, api.Source{Drop: []int{3, 2, 1, 3}})
	isGood(t, api.Source{Rules: many(30, rule), Drop: many(30, number)})
	isBad(t, api.Source{Rules: many(31, rule)})
	isBad(t, api.Source{Drop: many(31, number)})
	isBad(t, api.Source{Drop: many(100000, number)})
	isBad(t, api.Source{Rules: append(many(29, rule), rule(28))})
	isBad(t, api.Source{Drop: append(many(29, number), 0)})
}

// P10.3: words well-formed UTF-8 of 1 to MaxWord code points, without line
// feeds, each once in Skip, in Keep, MaxSkips of each.
func TestIsWords(t *testing.T) {
	sources := func(words ...string) []api.Source { return []api.Source{{Skip: words}, {Keep: words}} }
	for _, w := range []string{"a", " ", "é", "\U0010FFFF", "\uFFFD", "\x00", "\r", `"`, `\`, "#", strings.Repeat("a", 20), strings.Repeat("é", 20), strings.Repeat("\U0001F600", 20), strings.Repeat(`"`, 20)} {
		for _, x := range append(sources(w), sources("x", w, "y")...) {
			isGood(t, x)
		}
	}
	for _, w := range []string{"", "\n", "a\n", "\na", "a\nb", "\xff", "a\x80", "\xed\xa0\x80", "\xc0\x80", "\xf4\x90\x80\x80", "\xe2\x82", strings.Repeat("a", 21), strings.Repeat("é", 21), strings.Repeat("\xff", 20)} {
		for _, x := range append(sources(w), sources("x", w, "y")...) {
			isBad(t, x)
		}
	}
	for _, x := range append(sources("a", "a"), sources("a", "b", "c", "b")...) {
		isBad(t, x)
	}
	isGood(t, api.Source{Skip: []string{"a", "A", "b"}, Keep: []string{"b", "a", "A"}})
	isGood(t, api.Source{Skip: many(30, word), Keep: many(30, word)})
	for _, x := range append(sources(many(31, word)...), sources(append(many(29, word), "w28")...)...) {
		isBad(t, x)
	}
}

// P10.3: one that is bad is enough, wherever it is; all that is full is good.
func TestIsWhole(t *testing.T) {
	full := api.Source{Parent: "en", Vars: many(20, variable), Rules: many(30, rule), Drop: many(30, number), Skip: many(30, word), Keep: many(30, word)}
	isGood(t, full)
	for _, spoil := range []func(*api.Source){
		func(x *api.Source) { x.Parent = "root" },
		func(x *api.Source) { x.Vars = append(many(19, variable), api.Var{Name: "a"}) },
		func(x *api.Source) { x.Vars = append(many(19, variable), api.Var{E: none(0)}) },
		func(x *api.Source) { x.Rules = append(many(29, rule), api.Rule{N: 29, Left: none(0)}) },
		func(x *api.Source) { x.Rules = append(many(29, rule), api.Rule{N: 29, Right: none(0)}) },
		func(x *api.Source) { x.Rules = append(many(29, rule), rule(10000)) },
		func(x *api.Source) { x.Drop = append(many(29, number), -1) },
		func(x *api.Source) { x.Skip = append(many(29, word), "") },
		func(x *api.Source) { x.Keep = append(many(29, word), "") },
	} {
		x := full
		spoil(&x)
		isBad(t, x)
	}
}

// P10.3: Rules sorts by numbers, not by their texts, and leaves the source as it
// is; of what Parse told, too.
func TestRules(t *testing.T) {
	x := isRead(t, "20: 'a ><\n3: <> 'b\n100: ><\n1: 'c <> 'd\n0: ><\n9999: <>\n")
	rules, err := Rules(x)
	want := []api.Rule{x.Rules[4], x.Rules[3], x.Rules[1], x.Rules[0], x.Rules[2], x.Rules[5]}
	if err != api.OK || !reflect.DeepEqual(plainRules(rules), plainRules(want)) {
		t.Errorf("P10.3: %v, %v", rules, err)
	}
	var order []int
	for _, r := range x.Rules {
		order = append(order, r.N)
	}
	if fmt.Sprint(order) != "[20 3 100 1 0 9999]" {
		t.Errorf("P10.3: the source has %v", order)
	}
	for i, r := range rules {
		if r.N == 3 && (!r.Break || r.Left.Kind != api.NNone || !regex.Same(r.Right, one(0, 'b')) || r.Right.At != 16) {
			t.Errorf("P10.3: rule %d: %v", i, r)
		}
	}
}
