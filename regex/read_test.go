package regex

import (
	"fmt"
	"math"
	"reflect"
	"slices"
	"strings"
	"testing"

	"hornbook/api"
	"hornbook/lex"
)

// set tells an NSet at a place, of ranges by their ends.
func set(at int, ends ...int32) api.Node {
	e := api.Node{Kind: api.NSet, At: at}
	for pair := range slices.Chunk(ends, 2) {
		e.Set = append(e.Set, api.Range{Lo: pair[0], Hi: pair[1]})
	}
	return e
}

// one tells an NSet of one code point.
func one(at int, point int32) api.Node { return set(at, point, point) }

func variable(at int, name string) api.Node {
	return api.Node{Kind: api.NVar, At: at, Name: name}
}

func none(at int) api.Node { return api.Node{Kind: api.NNone, At: at} }

// over tells a node of kids, at the place of the first one.
func over(kind int, kids ...api.Node) api.Node {
	return api.Node{Kind: kind, At: kids[0].At, Kids: kids}
}

// isRead holds what is read of s.
func isRead(t *testing.T, s string, want api.Node) {
	t.Helper()
	got, at, err := Parse(s)
	if err != api.OK || at != 0 || !reflect.DeepEqual(plain(got), plain(want)) {
		t.Errorf("Parse(%q) = %v, %d, %v, want %v", s, got, at, err, want)
	}
}

// isRefused holds where s can't go on, and why.
func isRefused(t *testing.T, s string, wantAt int, want api.Errno) {
	t.Helper()
	got, at, err := Parse(s)
	if err != want || at != wantAt || !reflect.DeepEqual(got, api.Node{}) {
		t.Errorf("Parse(%q) = %v, %d, %v, want %v at %d", s, got, at, err, want, wantAt)
	}
}

// P7.1: each form alone.
func TestForms(t *testing.T) {
	isRead(t, "$x", variable(0, "x"))
	isRead(t, " $Abc123 ", variable(1, "Abc123"))
	isRead(t, "'a", one(0, 'a'))
	isRead(t, "''", one(0, '\''))
	isRead(t, `'\u{D800}`, one(0, 0xD800))
	isRead(t, `'\u{0}`, one(0, 0))
	isRead(t, `  '\u{10FFFF}`, one(2, 0x10FFFF))
	isRead(t, "{Digit}", set(0, 0x30, 0x39, 0x660, 0x669))
	isRead(t, "{Any}", set(0, 0, 0x10FFFF))
	isRead(t, "\t{Han}", set(1, 0x4E00, 0x9FFF))
	isRead(t, ".", set(0, 0, 0x10FFFF))
	isRead(t, "()", none(0))
	isRead(t, " ( ) # x", none(1))
	isRead(t, "'a*", over(api.NStar, one(0, 'a')))
	isRead(t, "'a+", over(api.NPlus, one(0, 'a')))
	isRead(t, "'a?", over(api.NOpt, one(0, 'a')))
	isRead(t, "'a 'b", over(api.NCat, one(0, 'a'), one(3, 'b')))
	isRead(t, "'a|'b", over(api.NAlt, one(0, 'a'), one(3, 'b')))
	isRead(t, "('a)", one(1, 'a'))
	isRead(t, "( ( 'a ) )", one(4, 'a'))
}

// P7.1: what stands in square brackets.
func TestSets(t *testing.T) {
	isRead(t, "[]", set(0))
	isRead(t, " [ ]", set(1))
	isRead(t, "[^]", set(0, 0, 0x10FFFF))
	isRead(t, "['a]", one(0, 'a'))
	isRead(t, "['a-'a]", one(0, 'a'))
	isRead(t, " ['a-'z]", set(1, 'a', 'z'))
	isRead(t, "[ 'a - 'c 'x 'b ]", set(0, 'a', 'c', 'x', 'x'))
	isRead(t, "['c'b'a]", set(0, 'a', 'c'))
	isRead(t, "['x 'a-'c 'b-'f]", set(0, 'a', 'f', 'x', 'x'))
	isRead(t, "['--'/]", set(0, '-', '/'))
	isRead(t, "['^']'[]", set(0, '[', '[', ']', '^'))
	isRead(t, "[{Digit}'5]", set(0, 0x30, 0x39, 0x660, 0x669))
	isRead(t, "['a{Kana}{Han}]", set(0, 'a', 'a', 0x3040, 0x30FF, 0x4E00, 0x9FFF))
	isRead(t, "[{Any}]", set(0, 0, 0x10FFFF))
	isRead(t, "[^{Any}]", set(0))
	isRead(t, "[^'a]", set(0, 0, 'a'-1, 'a'+1, 0x10FFFF))
	isRead(t, "[ ^ 'b-'d 'c ]", set(0, 0, 'a', 'e', 0x10FFFF))
	isRead(t, `[^'\u{1}-'\u{10FFFF}]`, one(0, 0))
	isRead(t, `[^'\u{0}]`, set(0, 1, 0x10FFFF))
	isRead(t, `[^{Digit}]`, set(0, 0, 0x2F, 0x3A, 0x65F, 0x66A, 0x10FFFF))
	isRead(t, `['\u{0}-'\u{10FFFF}]`, set(0, 0, 0x10FFFF))
}

// P7.1: which binds more closely, and that the left ones are two first.
func TestBinding(t *testing.T) {
	a, b, c := one(0, 'a'), one(2, 'b'), one(4, 'c')
	isRead(t, "'a'b'c", over(api.NCat, over(api.NCat, a, b), c))
	isRead(t, "'a|'b|'c", over(api.NAlt, over(api.NAlt, a, one(3, 'b')), one(6, 'c')))
	isRead(t, "'a'b|'c", over(api.NAlt, over(api.NCat, a, b), one(5, 'c')))
	isRead(t, "'a|'b'c", over(api.NAlt, a, over(api.NCat, one(3, 'b'), one(5, 'c'))))
	isRead(t, "'a'b*", over(api.NCat, a, over(api.NStar, b)))
	isRead(t, "'a*'b", over(api.NCat, over(api.NStar, a), one(3, 'b')))
	isRead(t, "'a|'b+", over(api.NAlt, a, over(api.NPlus, one(3, 'b'))))
	isRead(t, "'a?|'b", over(api.NAlt, over(api.NOpt, a), one(4, 'b')))
	isRead(t, "'a*+?", over(api.NOpt, over(api.NPlus, over(api.NStar, a))))
	isRead(t, "'a**", over(api.NStar, over(api.NStar, a)))
	isRead(t, "('a'b)*", over(api.NStar, over(api.NCat, one(1, 'a'), one(3, 'b'))))
	isRead(t, "('a|'b)'c", over(api.NCat, over(api.NAlt, one(1, 'a'), one(4, 'b')), one(7, 'c')))
	isRead(t, "'a('b'c)", over(api.NCat, a, over(api.NCat, one(3, 'b'), one(5, 'c'))))
	isRead(t, "'a|('b|'c)", over(api.NAlt, a, over(api.NAlt, one(4, 'b'), one(7, 'c'))))
	isRead(t, "()*", over(api.NStar, none(0)))
	isRead(t, "()|()", over(api.NAlt, none(0), none(3)))
	isRead(t, "()()", over(api.NCat, none(0), none(2)))
	isRead(t, "(())", none(1))
	isRead(t, "[]?.", over(api.NCat, over(api.NOpt, set(0)), set(3, 0, 0x10FFFF)))
	isRead(t, "'a* | 'b", over(api.NAlt, over(api.NStar, a), one(6, 'b'))) // the example's
	isRead(t, "'a'b|'c'd|$e", over(api.NAlt, over(api.NAlt, over(api.NCat, a, b), over(api.NCat, one(5, 'c'), one(7, 'd'))), variable(10, "e")))
}

// P7.1: each form within each other one.
func TestFormsWithinForms(t *testing.T) {
	forms := []func(at int) (string, api.Node){
		func(at int) (string, api.Node) { return "$v", variable(at, "v") },
		func(at int) (string, api.Node) { return "'q", one(at, 'q') },
		func(at int) (string, api.Node) { return "{Emoji}", set(at, 0x1F300, 0x1FAFF) },
		func(at int) (string, api.Node) { return ".", set(at, 0, 0x10FFFF) },
		func(at int) (string, api.Node) { return "()", none(at) },
		func(at int) (string, api.Node) { return "('q|$w)", over(api.NAlt, one(at+1, 'q'), variable(at+4, "w")) },
		func(at int) (string, api.Node) {
			return "(. $w)", over(api.NCat, set(at+1, 0, 0x10FFFF), variable(at+3, "w"))
		},
		func(at int) (string, api.Node) { return "($w+)", over(api.NPlus, variable(at+1, "w")) },
		func(at int) (string, api.Node) { return "[]", set(at) },
		func(at int) (string, api.Node) { return "[^'b]", set(at, 0, 'a', 'c', 0x10FFFF) },
	}
	for _, f := range forms {
		s, e := f(0)
		isRead(t, s, e)
		isRead(t, s+"*", over(api.NStar, e))
		isRead(t, s+"+", over(api.NPlus, e))
		isRead(t, s+" ?", over(api.NOpt, e))
		_, inner := f(1)
		isRead(t, "("+s+")", inner)
		for _, g := range forms {
			other, right := g(len(s) + 1)
			isRead(t, s+" "+other, over(api.NCat, e, right))
			isRead(t, s+"|"+other, over(api.NAlt, e, right))
			isRead(t, s+" "+other+"*", over(api.NCat, e, over(api.NStar, right)))
			_, farther := g(len(s) + 2)
			isRead(t, s+"+|"+other+"?", over(api.NAlt, over(api.NPlus, e), over(api.NOpt, farther)))
		}
	}
}

// P7.2: the sign at which it can't go on.
func TestErrForm(t *testing.T) {
	for s, at := range map[string]int{
		"": 0, "  ": 2, "# x": 3, "'a |": 4, "|'a": 0, "'a||'b": 3, "*": 0, "'a|*": 3, "(*": 1, "(": 1, "('a": 3, "('a 'b": 6, ")": 0, "'a)": 2, "('a))": 4,
		"('a|)": 4, "(|'a)": 1, "()'a)": 4, "['a": 3, "[": 1, "[^": 2, "]": 0, "'a]": 2, "[^^]": 2, "['a^]": 3, "[.]": 1, "[()]": 1, "['a|'b]": 3, "['a*]": 3,
		"[$x]": 1, "[[]]": 1, "['a-]": 4, "['a-": 4, "['a-{Han}]": 4, "['a--'b]": 4, "['a-'b-'c]": 6, "[{Han}-'a]": 6, "[-'a]": 1, "[^-'a]": 2, "'a-'b": 2, "^'a": 0, "'a^": 2,
		"'a 5": 3, "'a\n'b": 2, "\n": 0, "\n'a": 0, "'a\n": 2, "'a <>": 3, "><'a": 0, `"x"`: 0, "'a \"x\"": 3, "a": 0, "'a b": 3, "1: 'a": 0, "'a : 'b": 3, "$a = 'b": 3, "=": 0,
		"('a\n)": 3, "['a\n]": 3, "(()": 3, "'a ( 'b | ( 'c )": 16,
	} {
		isRefused(t, s, at, api.ErrForm)
	}
	if api.ErrForm != 70 || api.ErrDeep != 71 {
		t.Errorf("%d, %d", int(api.ErrForm), int(api.ErrDeep))
	}
}

// P7.2: brackets within brackets.
func TestErrDeep(t *testing.T) {
	if api.MaxNest != 20 {
		t.Fatal(api.MaxNest)
	}
	open, shut := strings.Repeat("(", 20), strings.Repeat(")", 20)
	isRead(t, open+"'a"+shut, one(20, 'a'))
	isRead(t, open+shut, none(19))
	isRead(t, open+"['a]"+shut, one(20, 'a'))
	isRead(t, open+"'a|'b*"+shut+"+", over(api.NPlus, over(api.NAlt, one(20, 'a'), over(api.NStar, one(23, 'b')))))
	isRead(t, open+shut+open+shut, over(api.NCat, none(19), none(59)))
	isRead(t, open[1:]+"()()"+shut[1:], over(api.NCat, none(19), none(21)))
	isRead(t, strings.Repeat("()", 100)+"|"+open+shut, over(api.NAlt, row(100), none(220)))
	isRefused(t, open, 20, api.ErrForm)
	isRefused(t, open+"(", 20, api.ErrDeep)
	isRefused(t, open+"()"+shut, 20, api.ErrDeep)
	isRefused(t, open+"('a)"+shut, 20, api.ErrDeep)
	isRefused(t, open+"'a|(", 23, api.ErrDeep)
	isRefused(t, open+"'a ( 'b-", 23, api.ErrDeep)
	isRefused(t, open+"{Nope}(", 20, api.ErrProp)
	isRead(t, open+shut[1:]+"'a"+open[1:]+"'b"+shut, over(api.NCat, over(api.NCat, none(19), one(39, 'a')), one(60, 'b'))) // those that are shut don't count
	isRefused(t, open+shut[1:]+"'a"+open+"'b"+shut, 60, api.ErrDeep)
	isRefused(t, strings.Repeat("(", 100000), 20, api.ErrDeep)
	list, _, _ := lex.Scan("'a " + open + " (")
	if e, n, err := Read(list, 0); n != 21 || err != api.ErrDeep || !reflect.DeepEqual(e, api.Node{}) {
		t.Errorf("%v, %d, %v", e, n, err)
	}
	if _, n, err := Read(list, 2); n != 22 || err != api.ErrForm { // one less is open
		t.Errorf("%d, %v", n, err)
	}
}

// row tells the expression of n `()`, one behind the other.
func row(n int) api.Node {
	e := none(0)
	for i := 1; i < n; i++ {
		e = over(api.NCat, e, none(2*i))
	}
	return e
}

// P7.2: items that bring an error, told at their first sign.
func TestItemErrors(t *testing.T) {
	for s, at := range map[string]int{
		"['b-'a]": 1, "['b-'a": 1, "['x 'b-'a": 4, "[^'b-'a": 2, "[^'b-'a {Foo}]": 2, "['b-'a-": 1, "['b-'a.]": 1, "'x ['c-'d 'b - 'a": 10,
		`('a | ['\u{10FFFF}-'\u{10FFFE}]`: 7, `['\u{1}-'\u{0}]`: 1,
	} {
		isRefused(t, s, at, api.ErrSet)
	}
	for s, at := range map[string]int{
		"{Foo}": 0, "'a {Foo}": 3, "('a|{Foo}": 4, "['a {Foo}": 4, "[^{Foo}]": 2, "[{Foo} 'b-'a]": 1, "{digit}": 0, "{DIGIT}": 0, "{Digits}": 0, "{any}": 0, "{a}*": 0, "'a|{Foo})": 3, "{Foo} 5": 0,
	} {
		isRefused(t, s, at, api.ErrProp)
	}
	isRefused(t, "{Foo} @", 6, api.ErrSign)
	isRefused(t, "['b-'a] {a1}", 8, api.ErrSign)
	for _, name := range []string{"Any", "Digit", "Emoji", "Han", "Kana", "Letter", "Lower", "Mark", "Punct", "Space", "Upper"} {
		for _, s := range []string{"{" + name + "}", "[{" + name + "}]", "[^{" + name + "}]"} {
			if e, at, err := Parse(s); err != api.OK || at != 0 || e.Kind != api.NSet || (len(e.Set) == 0) != (s == "[^{Any}]") {
				t.Errorf("Parse(%q) = %v, %d, %v", s, e, at, err)
			}
		}
	}
}

// characters tells n characters with one between each two, from a code point on.
func characters(n int, from int32) string {
	var b strings.Builder
	for i := range int32(n) {
		fmt.Fprintf(&b, `'\u{%x}`, from+2*i)
	}
	return b.String()
}

// P7.2: a set of too many ranges is told at its `]`.
func TestLargeSets(t *testing.T) {
	if api.MaxRanges != 200 {
		t.Fatal(api.MaxRanges)
	}
	two, more := characters(200, 0x1000), characters(201, 0x1000)
	e, at, err := Parse("[" + two + "]")
	if err != api.OK || at != 0 || len(e.Set) != 200 || !Is(e) {
		t.Errorf("%v, %d, %v", e, at, err)
	}
	isRefused(t, "["+more+"]", 1+len(more), api.ErrSet)
	isRefused(t, "'a | ["+more+" ] )", 6+len(more)+1, api.ErrSet)
	isRefused(t, "["+more+".]", 1+len(more), api.ErrForm) // it doesn't reach the `]`
	isRefused(t, "["+more, 1+len(more), api.ErrForm)
	isRefused(t, "["+more+"{Nope}]", 1+len(more), api.ErrProp)
	isRefused(t, "[^"+more+"]", 2+len(more), api.ErrSet)
	isRefused(t, "[^"+more+`'\u{0}'\u{10FFFF}]`, 2+len(more)+17, api.ErrSet)
	isRead(t, "["+more+`'\u{1000}-'\u{2000}]`, set(0, 0x1000, 0x2000)) // all of it counts, not each step
	isRead(t, "["+more+"{Any}]", set(0, 0, 0x10FFFF))
	isRead(t, "["+strings.Repeat("'a", 5000)+"]", one(0, 'a'))

	list, _, _ := lex.Scan("'a [" + more + "] 'b")
	if _, n, err := Read(list, 0); n != 2+201 || err != api.ErrSet {
		t.Errorf("%d, %v", n, err)
	}
}

// P7.1: a set turned has one range more, or one less, or as many: it is a set
// that can be read only if it has at most as many as a set may have.
func TestLargeSetsTurned(t *testing.T) {
	two := characters(200, 0x1000)
	isRefused(t, "[^"+two+"]", 2+len(two), api.ErrSet)
	from := characters(200, 0) // the first is U+0000
	e, at, err := Parse("[^" + from + "]")
	if err != api.OK || at != 0 || len(e.Set) != 200 || !Is(e) {
		t.Errorf("%v, %d, %v", e, at, err)
	}
	less := characters(199, 0x1000)
	e, at, err = Parse("[^" + less + "]")
	if err != api.OK || at != 0 || len(e.Set) != 200 || !Is(e) {
		t.Errorf("%v, %d, %v", e, at, err)
	}
	ends := characters(199, 0) + `'\u{10FFFF}`
	e, at, err = Parse("[^" + ends + "]")
	if err != api.OK || at != 0 || len(e.Set) != 199 || !Is(e) {
		t.Errorf("%v, %d, %v", e, at, err)
	}
}

// P7.2: from the middle of a list, from its end and beyond it.
func TestReadFrom(t *testing.T) {
	l, _, _ := lex.Scan("5 'a 'b ) ['c] | $d* x")
	for _, c := range []struct {
		from, end int
		err       api.Errno
		want      api.Node
	}{
		{0, 0, api.ErrForm, api.Node{}},
		{1, 3, api.OK, over(api.NCat, one(2, 'a'), one(5, 'b'))},
		{2, 3, api.OK, one(5, 'b')},
		{3, 3, api.ErrForm, api.Node{}},
		{4, 10, api.OK, over(api.NAlt, one(10, 'c'), over(api.NStar, variable(17, "d")))},
		{5, 6, api.OK, one(11, 'c')},
		{6, 6, api.ErrForm, api.Node{}},
		{8, 10, api.OK, over(api.NStar, variable(17, "d"))},
		{9, 9, api.ErrForm, api.Node{}},
		{11, 11, api.ErrForm, api.Node{}}, // the TEnd
		{12, 12, api.ErrForm, api.Node{}},
		{99, 99, api.ErrForm, api.Node{}},
		{-1, -1, api.ErrForm, api.Node{}},
		{math.MaxInt, math.MaxInt, api.ErrForm, api.Node{}},
		{math.MinInt, math.MinInt, api.ErrForm, api.Node{}},
	} {
		got, end, err := Read(l, c.from)
		if end != c.end || err != c.err || !reflect.DeepEqual(plain(got), plain(c.want)) {
			t.Errorf("Read(l, %d) = %v, %d, %v", c.from, got, end, err)
		}
	}
}

// P7.2: lists without a TEnd end as if there were one; a TEnd within a list ends
// an expression as well.
func TestReadWithoutEnd(t *testing.T) {
	for s, want := range map[string]struct {
		end int
		err api.Errno
	}{
		"": {0, api.ErrForm}, "'a": {1, api.OK}, "'a|": {2, api.ErrForm}, "('a": {2, api.ErrForm}, "['a": {2, api.ErrForm}, "['a-": {3, api.ErrForm}, "[^": {2, api.ErrForm}, "'a*": {2, api.OK}, "'a'b": {2, api.OK}, "(": {1, api.ErrForm}, "[]": {2, api.OK},
		"['b-'a": {1, api.ErrSet}, "['b": {2, api.ErrForm},
	} {
		l, _, _ := lex.Scan(s)
		short := l[:len(l)-1]
		for _, list := range [][]api.Token{slices.Clip(slices.Clone(short)), append(slices.Clone(short), api.Token{}, api.Token{Kind: api.TChar}), l} {
			if _, end, err := Read(list, 0); end != want.end || err != want.err {
				t.Errorf("Read(%q) = %d, %v", s, end, err)
			}
		}
		cut := append(slices.Clone(short), api.Token{Kind: api.TChar, R: 'z'})[:len(short)] // what is behind the list isn't in it
		if _, end, err := Read(cut, 0); end != want.end || err != want.err {
			t.Errorf("Read(%q) = %d, %v", s, end, err)
		}
	}
}

// P7.2: signs that lex never tells. A character that is none is no set.
func TestStrangeSigns(t *testing.T) {
	bracket := func(l ...api.Token) []api.Token {
		return append(append([]api.Token{{Kind: api.TSign, Text: "["}}, l...), api.Token{Kind: api.TSign, Text: "]"})
	}
	dash, good := api.Token{Kind: api.TSign, Text: "-"}, api.Token{Kind: api.TChar, R: 'a'}
	for _, r := range []int32{-1, 0x110000, math.MinInt32, math.MaxInt32} {
		bad := api.Token{Kind: api.TChar, R: r}
		for i, c := range []struct {
			l   []api.Token
			end int
			err api.Errno
		}{
			{[]api.Token{bad}, 0, api.ErrSet},
			{[]api.Token{good, bad}, 1, api.ErrSet},
			{bracket(bad), 1, api.ErrSet},
			{bracket(good, bad), 2, api.ErrSet},
			{bracket(good, dash, bad), 1, api.ErrSet},
			{bracket(bad, dash, good), 1, api.ErrSet},
			{bracket(bad, dash, bad), 1, api.ErrSet},
			{bracket(bad, dash), 3, api.ErrForm}, // that item isn't whole
		} {
			if e, end, err := Read(c.l, 0); end != c.end || err != c.err || !reflect.DeepEqual(e, api.Node{}) {
				t.Errorf("%d, row %d: %v, %d, %v", r, i, e, end, err)
			}
		}
	}
	for _, sign := range []api.Token{{Kind: 99, Text: "."}, {Kind: -1, Text: "("}, {Kind: api.TSign}, {Kind: api.TSign, Text: "()"}, {Kind: api.TSign, Text: "[]"}, {Kind: api.TWord, Text: "."}, {Kind: api.TIdent, Text: "$x"}, {Kind: api.TEnd, Text: "."}} {
		if _, end, err := Read([]api.Token{sign}, 0); end != 0 || err != api.ErrForm {
			t.Errorf("%v: %d, %v", sign, end, err)
		}
		if _, end, err := Read([]api.Token{good, sign}, 0); end != 1 || err != api.OK {
			t.Errorf("behind: %v: %d, %v", sign, end, err)
		}
	}
	if _, end, err := Read([]api.Token{{Kind: api.TProp}}, 0); end != 0 || err != api.ErrProp {
		t.Errorf("%d, %v", end, err)
	}
}

// P7.2: what lex refuses.
func TestParseOfNoSigns(t *testing.T) {
	for s, at := range map[string]int{"@": 0, "'a @": 3, "* @": 2, "(((((((((((((((((((((@": 21, "'": 0, "'a\n\n%": 4, "$": 0, "{Digit": 0, "\xFF": 0, `'a "x`: 3, "01": 0, "'a <": 3, "{Foo}['b-'a]'": 12} {
		isRefused(t, s, at, api.ErrSign)
	}
}

// P7.2: rows and repetitions may be as long as they like: they aren't nested.
func TestLongRows(t *testing.T) {
	const n = 200000
	for _, c := range []struct {
		s             string
		places, names int
	}{
		{strings.Repeat("'a", n), n, 0},
		{"'a" + strings.Repeat("|$b", n), 1, 1},
		{"'a" + strings.Repeat("*", n), 1, 0},
		{strings.Repeat("('a|$x)", n/2), n / 2, 1},
		{"[" + strings.Repeat("'a-'b", n) + "]", 1, 0},
	} {
		e, at, err := Parse(c.s)
		again, _, _ := Parse(" " + c.s)
		if err != api.OK || at != 0 || Places(e) != c.places || len(Names(e)) != c.names || !Same(e, again) {
			t.Errorf("%.20s: %d, %v: %d, %v", c.s, at, err, Places(e), Names(e))
		}
		if c.s[0] != '[' && (Is(e) || Print(e) != "") {
			t.Errorf("%.20s: it has too many nodes", c.s)
		}
	}
}
