package source

import (
	"reflect"
	"strings"
	"testing"

	"hornbook/api"
)

// one tells the expression of one code point, at a place.
func one(at int, r int32) api.Node {
	return api.Node{Kind: api.NSet, At: at, Set: []api.Range{{Lo: r, Hi: r}}}
}

// over tells a node of a kind over others, at the place of the first.
func over(kind int, kids ...api.Node) api.Node {
	return api.Node{Kind: kind, At: kids[0].At, Kids: kids}
}

// none tells the expression of the empty text, at a place.
func none(at int) api.Node { return api.Node{Kind: api.NNone, At: at} }

// plainNode tells e with nil for each list without anything, in memory of its
// own.
func plainNode(e api.Node) api.Node {
	out := api.Node{Kind: e.Kind, At: e.At, Name: e.Name}
	out.Set = append(out.Set, e.Set...)
	for _, kid := range e.Kids {
		out.Kids = append(out.Kids, plainNode(kid))
	}
	return out
}

// plain tells x likewise.
func plain(x api.Source) api.Source {
	out := api.Source{Parent: x.Parent, Rules: plainRules(x.Rules)}
	for _, v := range x.Vars {
		out.Vars = append(out.Vars, api.Var{Name: v.Name, E: plainNode(v.E)})
	}
	out.Drop = append(out.Drop, x.Drop...)
	out.Skip = append(out.Skip, x.Skip...)
	out.Keep = append(out.Keep, x.Keep...)
	return out
}

func plainRules(rules []api.Rule) []api.Rule {
	var out []api.Rule
	for _, r := range rules {
		out = append(out, api.Rule{N: r.N, Break: r.Break, Left: plainNode(r.Left), Right: plainNode(r.Right)})
	}
	return out
}

// isSource holds that s is read as want, places too, and that Is knows it.
func isSource(t *testing.T, s string, want api.Source) {
	t.Helper()
	got, at, err := Parse(s)
	if err != api.OK || at != 0 || !reflect.DeepEqual(plain(got), plain(want)) {
		t.Errorf("Parse(%.300q) = %v, %d, %v, want %v", s, got, at, err, want)
	}
	if !Is(got) {
		t.Errorf("Parse(%.300q) isn't Is", s)
	}
}

// isRefused holds that a text is read with that error at the place that an `@`
// marks in it (without it 0), and nothing else is told.
func isRefused(t *testing.T, marked string, want api.Errno) {
	t.Helper()
	s := strings.Replace(marked, "@", "", 1)
	wantAt := max(0, strings.Index(marked, "@"))
	x, at, err := Parse(s)
	if err != want || at != wantAt || !reflect.DeepEqual(plain(x), api.Source{}) {
		t.Errorf("Parse(%.300q) = %v, %d, %v, want %d, %v", s, x, at, err, wantAt, want)
	}
}

// isRead holds that s is a source.
func isRead(t *testing.T, s string) api.Source {
	t.Helper()
	x, at, err := Parse(s)
	if err != api.OK || at != 0 || !Is(x) {
		t.Errorf("Parse(%.300q): %v at %d", s, err, at)
	}
	return x
}

// P10.1: the chapter's example.
func TestExample(t *testing.T) {
	isSource(t, "1: 'a >< 'b", api.Source{Rules: []api.Rule{{N: 1, Left: one(3, 'a'), Right: one(9, 'b')}}})
}

// P10.1, P10.2: every form of line by itself, with and without a line feed
// behind it.
func TestEachLine(t *testing.T) {
	for s, want := range map[string]api.Source{
		"":                {},
		"parent en":       {Parent: "en"},
		"$a = 'b":         {Vars: []api.Var{{Name: "a", E: one(5, 'b')}}},
		"$aZ9 = ()":       {Vars: []api.Var{{Name: "aZ9", E: none(7)}}},
		"$x = 'a 'b|'c*":  {Vars: []api.Var{{Name: "x", E: over(api.NAlt, over(api.NCat, one(5, 'a'), one(8, 'b')), over(api.NStar, one(11, 'c')))}}},
		"1: ><":           {Rules: []api.Rule{{N: 1, Left: none(0), Right: none(0)}}},
		"1: 'a ><":        {Rules: []api.Rule{{N: 1, Left: one(3, 'a'), Right: none(0)}}},
		"1: >< 'b":        {Rules: []api.Rule{{N: 1, Left: none(0), Right: one(6, 'b')}}},
		"1: 'a+ >< 'b'c":  {Rules: []api.Rule{{N: 1, Left: over(api.NPlus, one(3, 'a')), Right: over(api.NCat, one(10, 'b'), one(12, 'c'))}}},
		"0: <>":           {Rules: []api.Rule{{N: 0, Break: true, Left: none(0), Right: none(0)}}},
		"10: 'a <>":       {Rules: []api.Rule{{N: 10, Break: true, Left: one(4, 'a'), Right: none(0)}}},
		"999: <> 'b":      {Rules: []api.Rule{{N: 999, Break: true, Left: none(0), Right: one(8, 'b')}}},
		"9999: 'a <> 'b?": {Rules: []api.Rule{{N: 9999, Break: true, Left: one(6, 'a'), Right: over(api.NOpt, one(12, 'b'))}}},
		"1: () >< ()":     {Rules: []api.Rule{{N: 1, Left: none(3), Right: none(9)}}},
		"drop 0":          {Drop: []int{0}},
		"drop 9999":       {Drop: []int{9999}},
		`skip "Mr."`:      {Skip: []string{"Mr."}},
		`keep "Mr."`:      {Keep: []string{"Mr."}},
		`skip "a\"\\b"`:   {Skip: []string{`a"\b`}},
		`keep "# é"`:      {Keep: []string{"# é"}},
	} {
		isSource(t, s, want)
		isSource(t, s+"\n", want)
		isSource(t, s+"\r\n\n\t \n", want)
		isSource(t, s+" # and a comment", want)
		isSource(t, s+"#\n#", want)
	}
}

// P10.1: blanks, comments and empty lines count for nothing but places; a
// line's signs need no blanks that lex doesn't need.
func TestBlanks(t *testing.T) {
	for _, s := range []string{"", "\n", "\n\n\n", " ", "\t\r ", "#", "# parent en", "#\n \n#x\n", " \n\t\n\r"} {
		isSource(t, s, api.Source{})
	}
	want := api.Source{Parent: "en-US", Drop: []int{7}, Skip: []string{"a"}, Keep: []string{"b"}}
	for _, s := range []string{
		"parent en-US\ndrop 7\nskip \"a\"\nkeep \"b\"\n",
		"\n\n\tparent\ten-US\r\n\n drop\t 7 #7\n\n\n  skip\"a\"#\"b\"\nkeep\"b\"",
		"keep \"b\"\nskip \"a\"\ndrop 7\nparent en-US",
		"#\nparent en-US#\n#\ndrop 7# drop 8\nskip \"a\"\n# skip \"c\"\nkeep \"b\" # \"",
	} {
		isSource(t, s, want)
	}
	isSource(t, "$a='b\n1:'a><$a", api.Source{Vars: []api.Var{{Name: "a", E: one(3, 'b')}}, Rules: []api.Rule{{N: 1, Left: one(8, 'a'), Right: one(3, 'b')}}})
	isSource(t, " $a\t= 'b #\n\n 1 :'a <> $a", api.Source{Vars: []api.Var{{Name: "a", E: one(6, 'b')}}, Rules: []api.Rule{{N: 1, Break: true, Left: one(16, 'a'), Right: one(6, 'b')}}})
	isRefused(t, "@drop7", api.ErrForm) // one sign, and no keyword
}

// P10.2: all keep the order in which they stand, among themselves; rules and
// drops aren't sorted.
func TestOrder(t *testing.T) {
	s := "skip \"z\"\n5: <>\n$b = ()\ndrop 9\nkeep \"y\"\n$a = 'q\ndrop 1\n2: $a ><\nskip \"a\"\nparent DE_at\n$c = $a\n10: >< $b\nkeep \"b\"\ndrop 4\nskip \"m\"\nkeep \"z\"\n"
	q, b := one(strings.Index(s, "'q"), 'q'), none(strings.Index(s, "()"))
	isSource(t, s, api.Source{
		Parent: "de-AT",
		Vars:   []api.Var{{Name: "b", E: b}, {Name: "a", E: q}, {Name: "c", E: q}},
		Rules:  []api.Rule{{N: 5, Break: true, Left: none(0), Right: none(0)}, {N: 2, Left: q, Right: none(0)}, {N: 10, Left: none(0), Right: b}},
		Drop:   []int{9, 1, 4},
		Skip:   []string{"z", "a", "m"},
		Keep:   []string{"y", "b", "z"},
	})
}

// P10.2: a parent is told as its canonical tag.
func TestParents(t *testing.T) {
	for s, want := range map[string]string{"en": "en", "EN": "en", "eng": "eng", "de_at": "de-AT", "ZH_hANT-tw": "zh-Hant-TW", "sl-ROZAJ_1994": "sl-rozaj-1994", "es-419": "es-419", "en-root": "en-Root"} {
		isSource(t, "parent "+s, api.Source{Parent: want})
	}
	longest := "en-aaaaaaaa-bbbbbbbb-cccccccc-1994-rozaj" // MaxTag bytes
	isSource(t, "parent "+longest, api.Source{Parent: longest})
	for _, s := range []string{"e", "x", "engl", "parent", "skip", "en-", "en--US", "en-US-", "en-US-GB", "en-posix-POSIX", "root", "ROOT", "Root", "rooT", "root-US", "en_", "g" + longest} {
		isRefused(t, "@parent "+s, api.ErrTag)
		isRefused(t, "drop 1\n\n @parent "+s+" # x\n", api.ErrTag)
	}
}

// P10.1: a keyword is a TIdent with just that text.
func TestKeywords(t *testing.T) {
	for _, s := range []string{"what", "Parent en", "PARENT en", "parents en", "parent-en", "parent_ en", "Drop 1", "drops 1", "drop1", "dro 1", "Skip \"a\"", "skip-\"a\"", "Keep \"a\"", "keeps \"a\"", "p", "en", "root"} {
		isRefused(t, "@"+s, api.ErrForm)
		isRefused(t, "parent en\n @"+s, api.ErrForm)
	}
}

// P10.1: no other sign begins a line.
func TestFirstSigns(t *testing.T) {
	for _, s := range []string{"\"drop\" 1", "'a", "{Any}", "{parent} en", "[ ]", "] 1", "(", ")", "|", "*", "+", "?", ".", "^", "-", ":", "=", "><", "<>", "= 'a", ": ><", "-1: ><", "($a) = 'b", "'a >< 'b"} {
		isRefused(t, "@"+s, api.ErrForm)
		isRefused(t, "\n  @"+s+"\n", api.ErrForm)
	}
}

// P10.1: in the lines of a keyword, the sign that can't stand there; a sign that
// is missing is told at the line's end.
func TestKeywordForms(t *testing.T) {
	wrong := map[string][]string{
		"parent": {"5", `"en"`, "$en", "'e", "{Any}", "=", "(en)"},
		"drop":   {"a", `"5"`, "$a", "'5", "{Any}", "-5", "(5)"},
		"skip":   {"a", "5", "$a", "'a", "{Any}", "=", `("a")`},
		"keep":   {"a", "5", "$a", "'a", "{Any}", "=", `["a"]`},
	}
	right := map[string]string{"parent": "en", "drop": "5", "skip": `"a"`, "keep": `"a"`}
	for word, list := range wrong {
		isRead(t, word+" "+right[word])
		isRefused(t, word+"@", api.ErrForm)
		isRefused(t, word+"  @", api.ErrForm)
		isRefused(t, word+" # x@", api.ErrForm)
		isRefused(t, word+" # x@\n"+right[word], api.ErrForm)
		isRefused(t, word+"@\n", api.ErrForm)
		for _, s := range list {
			isRefused(t, word+" @"+s, api.ErrForm)
			isRefused(t, word+" "+right[word]+" @"+s, api.ErrForm)
		}
		isRefused(t, word+" "+right[word]+" @"+right[word], api.ErrForm)
		isRefused(t, word+" "+right[word]+"\n"+word+" "+right[word]+" @. . .\n", api.ErrForm)
	}
}

// P10.1: in a variable's line, the sign that can't stand there, and regex's
// errors.
func TestVariableForms(t *testing.T) {
	for _, s := range []string{"@", " @\n", " @'b", " @: 'b", " =@= 'b", " @$b = 'c", " @\"=\" 'b", " =@", " = # 'b@\n'b", " = @= 'b", " = @|", " = 'b |@", " = 'b | @| 'c", " = 'b @)", " = ('b@", " = ('b@\n)", " = [ 'b@", " = [ 'b - @]", " = [ @$b ]", " = @\"b\"", " = 'b @\"c\"", " = 'b @5", " = @en", " = 'b @= 'c", " = 'b @>< 'c", " = 'b @- 'c", " = @*"} {
		isRefused(t, "$a"+s, api.ErrForm)
		isRefused(t, "\n $a"+s, api.ErrForm)
	}
	isRefused(t, "$a = 'b [ 'c @'b-'a ]", api.ErrSet)
	isRefused(t, "$a = 'b [ 'c @{Foo} ]", api.ErrProp)
	isRefused(t, "$a = 'b @{letter}", api.ErrProp)
	isRefused(t, "$a = "+strings.Repeat("(", 20)+"@('b", api.ErrDeep)
	isRead(t, "$a = "+strings.Repeat("(", 20)+"'b"+strings.Repeat(")", 20))
}

// P10.1: likewise in a rule's line, on both sides.
func TestRuleForms(t *testing.T) {
	for _, s := range []string{
		"@", " @\n", " @><", " @'a >< 'b", " @= ><", " @1: ><", ":@", ": @\n><", ": 'a@", ": 'a@\n><", ": 'a # ><@", ": @|", ": @| ><", ": 'a | @><", ": 'a @) ><", ": ('a @><", ": [ 'a @><", ": @: ><", ": @5 ><", ": @\"a\" ><", ": @a ><", ": 'a @5 ><", ": 'a @= 'b ><", ": 'a @: ><", ": @* ><",
		": >< @><", ": <> @><", ": >< @<>", ": 'a >< @>< 'b", ": 'a >< 'b @><", ": 'a >< 'b @<> 'c", ": >< @|", ": >< 'b |@", ": >< 'b @)", ": >< ('b@", ": >< ('b@\n)", ": >< ['b@\n]", ": >< @5", ": >< 'b @5", ": >< @\"b\"", ": >< @b",
	} {
		isRefused(t, "1"+s, api.ErrForm)
		isRefused(t, "drop 1\n 12"+s, api.ErrForm)
	}
	deep := strings.Repeat("(", 20)
	for _, c := range []struct {
		s   string
		err api.Errno
	}{{"'x [ 'c @'b-'a ]", api.ErrSet}, {"[ {Any} @{Foo} ]", api.ErrProp}, {"@{any}", api.ErrProp}, {deep + "@(", api.ErrDeep}} {
		isRefused(t, "1: "+c.s+" >< 'b", c.err)
		isRefused(t, "1: <> "+c.s, c.err)
		isRefused(t, "1: 'a >< "+c.s, c.err)
	}
	isRead(t, "1: "+deep+"'a"+strings.Repeat(")", 20)+" >< "+deep+"'b"+strings.Repeat(")", 20))
}

// P10.1: a set of too many ranges, at its `]`.
func TestTooManyRanges(t *testing.T) {
	points := func(n int) string {
		var b strings.Builder
		for i := range n {
			b.WriteString("'" + string(rune(0x100+2*i)))
		}
		return b.String()
	}
	isRead(t, "$a = ["+points(200)+"]")
	isRefused(t, "$a = ["+points(201)+"@]", api.ErrSet)
	isRead(t, "1: ["+points(200)+"] >< ["+points(200)+"]")
	isRefused(t, "1: ["+points(200)+"] >< ["+points(201)+"@]", api.ErrSet)
	isRefused(t, "1: ["+points(201)+"@] ><", api.ErrSet)
}

// P10.1: lex's error and place, ahead of all that is told of signs.
func TestLexErrors(t *testing.T) {
	for _, s := range []string{"@%", "parent en\n@%", "what\nwhat\n@%", "parent x y\n drop 5\ndrop 5 5 \n@%", "@\"a", "skip @\"a\nb\"", "keep @\"\\n\"", "skip @\"\xff\"", "drop @00", "drop @10000", "@10000: ><", "@01: ><", "@$1 = 'a", "@$aaaaaaaaaaaaaaaaaaaaa = 'a", "1: @> <", "1: 'a @< > 'b", "1: @'\n ><", "$a = @'\\u{110000}", "$a = @{Foo 1}", "parent @é", "1: @{} ><"} {
		isRefused(t, s, api.ErrSign)
	}
	isRead(t, "$aaaaaaaaaaaaaaaaaaaa = 'a")
}
