package regex

import (
	"fmt"
	"math/rand"
	"reflect"
	"slices"
	"strings"
	"testing"

	"hornbook/api"
	"hornbook/lex"
	"hornbook/props"
	"hornbook/uniset"
)

// letter tells, as one byte, what a sign is to the grammar: a name, a
// character, a property, one of its signs, or anything else.
func letter(sign api.Token) byte {
	switch sign.Kind {
	case api.TName:
		return 'n'
	case api.TChar:
		return 'c'
	case api.TProp:
		return 'p'
	case api.TSign:
		if len(sign.Text) == 1 {
			return sign.Text[0]
		}
	}
	return 'x'
}

// What can come next in an expression, as far as it is there.
const (
	first   = iota // what begins a prim
	inner          // that, or a `)`: behind a `(`
	behind         // behind a prim, or behind what repeats one
	begun          // behind a `[`
	items          // behind a `^`, or behind an item
	char           // behind a character in brackets
	through        // behind its `-`
)

// steps tells, of what can come next, which letter leads to what.
func steps() [7]map[byte]int {
	prim := map[byte]int{'n': behind, 'c': behind, 'p': behind, '.': behind, '(': inner, '[': begun}
	with := func(m map[byte]int, more ...any) map[byte]int {
		out := map[byte]int{}
		for k, v := range m {
			out[k] = v
		}
		for i := 0; i < len(more); i += 2 {
			out[byte(more[i].(rune))] = more[i+1].(int)
		}
		return out
	}
	item := map[byte]int{'c': char, 'p': items, ']': behind}
	return [7]map[byte]int{
		first:   prim,
		inner:   with(prim, ')', behind),
		behind:  with(prim, '|', first, '*', behind, '+', behind, '?', behind, ')', behind),
		begun:   with(item, '^', items),
		items:   item,
		char:    with(item, '-', through),
		through: {'c': items},
	}
}

// definedEnd: P7.2, sign by sign: as far as what is there can go on to be an
// expression; then it is one, or it can't go on. (Sets are never too large
// here.)
func definedEnd(table [7]map[byte]int, l []api.Token, from int) (int, api.Errno) {
	next, open, low := first, 0, 0
	for n := from; ; n++ {
		sign := api.Token{}
		if 0 <= n && n < len(l) {
			sign = l[n]
		}
		to, ok := table[next][letter(sign)]
		ok = ok && (letter(sign) != ')' || open > 0)
		if !ok && next == behind && open == 0 {
			return n, api.OK
		}
		if !ok {
			return n, api.ErrForm
		}
		switch letter(sign) {
		case '(':
			if open == 20 {
				return n, api.ErrDeep
			}
			open++
		case ')':
			open--
		case 'p':
			if !slices.Contains(props.Names(), sign.Text) {
				return n, api.ErrProp
			}
		case 'c':
			if next != through {
				low = n
			}
			isWhole := next == through || to == behind || n+1 >= len(l) || letter(l[n+1]) != '-'
			if isWhole && !(0 <= l[low].R && l[low].R <= sign.R && sign.R <= 0x10FFFF) {
				return low, api.ErrSet
			}
		}
		next = to
	}
}

// tops tells the numbers of the signs that stand in no brackets of l: those
// that open and close some too.
func tops(l []api.Token) []int {
	var out []int
	depth := 0
	for i, sign := range l {
		c := letter(sign)
		if c == ')' || c == ']' {
			depth--
		}
		if depth == 0 {
			out = append(out, i)
		}
		if c == '(' || c == '[' {
			depth++
		}
	}
	return out
}

// definedTree: P7.1, from the right on: the last of what binds least closely
// is cut off. (l is an expression.)
func definedTree(l []api.Token) api.Node {
	cut := func(kind, to, from int) api.Node {
		left, right := definedTree(l[:to]), definedTree(l[from:])
		return api.Node{Kind: kind, At: left.At, Kids: []api.Node{left, right}}
	}
	all := tops(l)
	for _, i := range slices.Backward(all) {
		if letter(l[i]) == '|' {
			return cut(api.NAlt, i, i+1)
		}
	}
	for _, i := range slices.Backward(all) {
		if i > 0 && strings.IndexByte("ncp.([", letter(l[i])) >= 0 {
			return cut(api.NCat, i, i)
		}
	}
	last := len(l) - 1
	if kind := map[byte]int{'*': api.NStar, '+': api.NPlus, '?': api.NOpt}[letter(l[last])]; kind != 0 {
		kid := definedTree(l[:last])
		return api.Node{Kind: kind, At: kid.At, Kids: []api.Node{kid}}
	}
	switch letter(l[0]) {
	case 'n':
		return api.Node{Kind: api.NVar, At: l[0].At, Name: l[0].Text}
	case '(':
		if last == 1 {
			return api.Node{Kind: api.NNone, At: l[0].At}
		}
		return definedTree(l[1:last])
	case '[':
		return api.Node{Kind: api.NSet, At: l[0].At, Set: definedSet(l[1:last])}
	}
	return api.Node{Kind: api.NSet, At: l[0].At, Set: definedSet(l)}
}

// definedSet: the code points of items, or of a `.`.
func definedSet(l []api.Token) []api.Range {
	if len(l) == 0 {
		return nil
	}
	if letter(l[0]) == '^' {
		return uniset.Minus([]api.Range{{Lo: 0, Hi: 0x10FFFF}}, definedSet(l[1:]))
	}
	var out []api.Range
	for i := 0; i < len(l); i++ {
		switch letter(l[i]) {
		case '.':
			out = append(out, api.Range{Lo: 0, Hi: 0x10FFFF})
		case 'p':
			set, _ := props.Set(l[i].Text)
			out = append(out, set...)
		case 'c':
			lo := l[i].R
			if i+2 < len(l) && letter(l[i+1]) == '-' {
				i += 2
			}
			out = append(out, api.Range{Lo: lo, Hi: l[i].R})
		}
	}
	return uniset.Union(out, nil)
}

// definedPrint: P7.3's forms.
func definedPrint(e api.Node) string {
	var kids []any
	for _, kid := range e.Kids {
		kids = append(kids, definedPrint(kid))
	}
	form := map[int]string{api.NVar: "$" + e.Name, api.NNone: "()", api.NCat: "(%s %s)", api.NAlt: "(%s | %s)", api.NStar: "(%s)*", api.NPlus: "(%s)+", api.NOpt: "(%s)?"}[e.Kind]
	if e.Kind == api.NSet {
		var parts []string
		for _, r := range e.Set {
			one := fmt.Sprintf(`'\u{%X}-'\u{%X}`, r.Lo, r.Hi)
			if r.Lo == r.Hi {
				one, _, _ = strings.Cut(one, "-")
			}
			parts = append(parts, one)
		}
		form = "[" + strings.Join(parts, " ") + "]"
	}
	return fmt.Sprintf(form, kids...)
}

// plain tells a tree whose empty lists are nil, in memory of its own.
func plain(e api.Node) api.Node {
	out := api.Node{Kind: e.Kind, At: e.At, Name: e.Name}
	out.Set = append(out.Set, e.Set...)
	for _, kid := range e.Kids {
		out.Kids = append(out.Kids, plain(kid))
	}
	return out
}

// isDefined holds Read against the definition, and what it answers against the
// other calls.
func isDefined(t *testing.T, table [7]map[byte]int, l []api.Token, from int) {
	t.Helper()
	wantEnd, wantErr := definedEnd(table, l, from)
	want := api.Node{}
	if wantErr == api.OK {
		want = definedTree(l[from:wantEnd])
	}
	got, end, err := Read(l, from)
	if end != wantEnd || err != wantErr || !reflect.DeepEqual(plain(got), plain(want)) {
		t.Fatalf("Read(%s, %d) = %v, %d, %v, want %v, %d, %v", lex.Print(l), from, got, end, err, want, wantEnd, wantErr)
	}
	if err != api.OK {
		return
	}
	printed := Print(got)
	if !Is(got) || printed != definedPrint(want) {
		t.Fatalf("%s is printed as %s", lex.Print(l), printed)
	}
	again, at, err := Parse(printed)
	if isDeep(printed) {
		if err != api.ErrDeep {
			t.Fatalf("%s is read with %v", printed, err)
		}
	} else if err != api.OK || at != 0 || !Same(got, again) || !Same(again, got) || Print(again) != printed {
		t.Fatalf("P7.4: %s is read as %v, %d, %v", printed, again, at, err)
	}
}

// isDeep tells whether more `(` are open somewhere in what is printed than may
// be. (What is printed has no `(` in square brackets.)
func isDeep(printed string) bool {
	open := 0
	for _, c := range printed {
		if c == '(' {
			open++
		} else if c == ')' {
			open--
		}
		if open > 20 {
			return true
		}
	}
	return false
}

// alphabet tells signs of which lists are made: each that the grammar has, and
// each kind that it hasn't.
func alphabet() []api.Token {
	out := []api.Token{
		{Kind: api.TName, Text: "x"}, {Kind: api.TChar, R: 'a'}, {Kind: api.TChar, R: 'c'}, {Kind: api.TProp, Text: "Digit"}, {Kind: api.TProp, Text: "Foo"},
		{Kind: api.TEnd}, {Kind: api.TWord, Text: "("}, {Kind: api.TNum, Text: "1"}, {Kind: api.TLine}, {Kind: api.TIdent, Text: "a"}, {Kind: 99, Text: "("}, {Kind: -1, Text: "."},
		{Kind: api.TSign, Text: "><"}, {Kind: api.TSign}, {Kind: api.TChar, R: -1}, {Kind: api.TChar, R: 0x110000},
	}
	for _, c := range "[]()|*+?.^-:=" {
		out = append(out, api.Token{Kind: api.TSign, Text: string(c)})
	}
	return out
}

// placed gives signs places of their own, which tell nothing of their numbers.
func placed(l []api.Token) []api.Token {
	for i := range l {
		l[i].At = 1000 - 7*i
	}
	return l
}

// P7.1, P7.2: all short lists of signs, with and without a TEnd.
func TestShortListsAreDefined(t *testing.T) {
	table, signs := steps(), alphabet()
	isDefined(t, table, nil, 0)
	for _, a := range signs {
		isDefined(t, table, placed([]api.Token{a}), 0)
		for _, b := range signs {
			isDefined(t, table, placed([]api.Token{a, b}), 0)
			for _, c := range signs {
				isDefined(t, table, placed([]api.Token{a, b, c}), 0)
				for _, d := range signs[:5] {
					isDefined(t, table, placed([]api.Token{a, b, c, d}), 0)
					isDefined(t, table, placed([]api.Token{d, a, b, c}), 0)
				}
			}
		}
	}
}

// P7.1, P7.2: all lists of up to six of the grammar's signs that go on as far
// as they reach, and one sign more of each kind.
func TestListsThatGoOnAreDefined(t *testing.T) {
	table := steps()
	var few []api.Token
	for _, sign := range alphabet() {
		if c := letter(sign); strings.IndexByte("cp()[]|*^-", c) >= 0 && sign.Text != "Foo" && (c != 'c' || sign.R == 'a' || sign.R == 'c') {
			few = append(few, sign)
		}
	}
	count := 0
	var grow func(l []api.Token)
	grow = func(l []api.Token) {
		for _, sign := range few {
			longer := placed(append(slices.Clone(l), sign))
			isDefined(t, table, longer, 0)
			count++
			if end, _ := definedEnd(table, longer, 0); end == len(longer) && end < 6 {
				grow(longer)
			}
		}
	}
	grow(nil)
	if count < 10000 {
		t.Errorf("%d lists", count)
	}
}

// P7.1, P7.2, P7.3, P7.4: long lists, most of which go on far, read from every
// sign of them and from beyond.
func TestLongListsAreDefined(t *testing.T) {
	table, signs := steps(), alphabet()
	source := rand.New(rand.NewSource(7))
	whole := 0
	for range 800 {
		var l []api.Token
		for size := source.Intn(40); len(l) < size; {
			longer := append(slices.Clone(l), signs[source.Intn(len(signs))])
			if end, _ := definedEnd(table, longer, 0); end == len(longer) || source.Intn(200) == 0 {
				l = longer
			}
		}
		placed(l)
		for from := -1; from <= len(l)+1; from++ {
			isDefined(t, table, l, from)
		}
		if end, err := definedEnd(table, l, 0); err == api.OK && end > 10 {
			whole++
		}
	}
	if whole < 30 {
		t.Errorf("%d long expressions", whole)
	}
}

// P7.2: Parse is lex's Scan, Read from 0, and a TEnd behind it.
func TestParseIsDefined(t *testing.T) {
	table := steps()
	source := rand.New(rand.NewSource(8))
	pieces := []string{"'a", "'z", "'-", " ", "'\\u{d800}", "$x", "$Yy2", "{Han}", "{Nope}", ".", "(", ")", "(", ")", "()", "[", "]", "[^", "'b-'y", "'y-'b", "-", "|", "|", "*", "+", "?", "\n", "12", "word", `"w"`, "# x\n", "<>", "@", "'"}
	counts := map[api.Errno]int{}
	for range 60000 {
		var b strings.Builder
		for range source.Intn(9) {
			b.WriteString(pieces[source.Intn(len(pieces))])
		}
		s := b.String()
		list, wantAt, wantErr := lex.Scan(s)
		want := api.Node{}
		if wantErr == api.OK {
			end, err := definedEnd(table, list, 0)
			wantErr = err
			if err == api.OK && list[end].Kind != api.TEnd {
				wantErr = api.ErrForm
			}
			if wantErr == api.OK {
				want = definedTree(list[:end])
			} else {
				wantAt = list[end].At
			}
		}
		got, at, err := Parse(s)
		if at != wantAt || err != wantErr || !reflect.DeepEqual(plain(got), plain(want)) {
			t.Fatalf("Parse(%q) = %v, %d, %v, want %v, %d, %v", s, got, at, err, want, wantAt, wantErr)
		}
		counts[err]++
	}
	for _, err := range []api.Errno{api.OK, api.ErrForm, api.ErrSet, api.ErrProp, api.ErrSign} {
		if counts[err] < 50 {
			t.Errorf("%v: %d texts", err, counts[err])
		}
	}
}
