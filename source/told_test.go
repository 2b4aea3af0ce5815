package source

import (
	"fmt"
	"strings"
	"testing"

	"hornbook/api"
)

// rows tells so many lines of that form, each with its number.
func rows(n int, form string) string {
	var b strings.Builder
	for i := range n {
		fmt.Fprintf(&b, form, i)
	}
	return b.String()
}

// wide tells an expression of so many places.
func wide(n int) string { return strings.Repeat("'a", n) }

// P10.1: ErrTwice: a parent, a name, a rule's number, a drop's, a word in skip,
// in keep; whatever else the lines have, and whatever is between them.
func TestTwice(t *testing.T) {
	for _, s := range []string{
		"parent en\n@parent de", "parent en\n@parent en", "parent en\ndrop 1\n\n @parent EN_us #\n",
		"$a = 'b\n@$a = 'b", "$a = 'b\n$b = 'c\n  @$a = ()", "$a = 'b\n1: ><\n@$a = $a",
		"1: ><\n@1: ><", "1: ><\n@1: <>", "1: 'a ><\n2: ><\n @1: <> 'b",
		"drop 5\n@drop 5", "drop 5\ndrop 6\n@drop 5", "drop 0\n 1: ><\n@drop 0\n",
		"skip \"a\"\n@skip \"a\"", "skip \"a\"\nkeep \"b\"\n @skip \"a\"", "skip \"\\\\\"\n@skip \"\\\\\"",
		"keep \"a\"\n@keep \"a\"", "keep \"a\"\nskip \"b\"\nkeep \"c\"\n @keep \"a\"",
	} {
		isRefused(t, s, api.ErrTwice)
	}
}

// P10.1, P10.2: what is alike and may stand: a rule beside a drop of its number,
// a word in skip and in keep, names and words that differ in a letter's case.
func TestNotTwice(t *testing.T) {
	nothing := none(0)
	isSource(t, "drop 5\n5: ><\n", api.Source{Drop: []int{5}, Rules: []api.Rule{{N: 5, Left: nothing, Right: nothing}}})
	isSource(t, "5: ><\ndrop 5\n", api.Source{Drop: []int{5}, Rules: []api.Rule{{N: 5, Left: nothing, Right: nothing}}})
	isSource(t, "skip \"a\"\nkeep \"a\"", api.Source{Skip: []string{"a"}, Keep: []string{"a"}})
	isSource(t, "keep \"a\"\nskip \"a\"", api.Source{Skip: []string{"a"}, Keep: []string{"a"}})
	isSource(t, "skip \"a\"\nskip \"A\"\nskip \"a \"\nskip \" a\"\nskip \"é\"\nskip \"e\u0301\"", api.Source{Skip: []string{"a", "A", "a ", " a", "é", "e\u0301"}})
	isSource(t, "$a = ()\n$A = ()\n$aa = ()", api.Source{Vars: []api.Var{{Name: "a", E: none(5)}, {Name: "A", E: none(13)}, {Name: "aa", E: none(22)}}})
	isSource(t, "0: ><\n1: ><\n10: ><", api.Source{Rules: []api.Rule{{N: 0, Left: nothing, Right: nothing}, {N: 1, Left: nothing, Right: nothing}, {N: 10, Left: nothing, Right: nothing}}})
}

// P10.1: ErrMany: as many, and one more; each sort is counted by itself.
func TestMany(t *testing.T) {
	forms := map[string]int{"$v%d = 'a\n": 20, "%d: ><\n": 30, "%d: <> 'a\n": 30, "drop %d\n": 30, "skip \"%d\"\n": 30, "keep \"%d\"\n": 30}
	full := "parent en\n"
	for form, most := range forms {
		isRead(t, rows(most, form))
		isRefused(t, rows(most, form)+"@"+fmt.Sprintf(form, most), api.ErrMany)
		isRefused(t, rows(most, form)+"# x\n\n @"+fmt.Sprintf(form, most)+rows(3, form), api.ErrMany)
		if !strings.Contains(form, "<>") {
			full += rows(most, form)
		}
	}
	if x := isRead(t, full); len(x.Vars) != 20 || len(x.Rules) != 30 || len(x.Drop) != 30 || len(x.Skip) != 30 || len(x.Keep) != 30 {
		t.Error("not all at once")
	}
	for form, most := range forms {
		isRefused(t, full+"@"+fmt.Sprintf(form, most+70), api.ErrMany)
	}
}

// P10.1: ErrLong of more than MaxSource bytes, whatever they are.
func TestLongSources(t *testing.T) {
	for _, fill := range []string{"\n", " ", "#", "%", "\xff", "a", "1"} {
		isRefused(t, strings.Repeat(fill, 2001), api.ErrLong)
		isRefused(t, strings.Repeat(fill, 1<<20), api.ErrLong)
	}
	for _, line := range []string{"drop 1", "drop 1 #", "drop 1\n"} {
		for _, fill := range []string{"\n", " ", "\t"} {
			isSource(t, line+strings.Repeat(fill, 2000-len(line)), api.Source{Drop: []int{1}})
			isRefused(t, line+strings.Repeat(fill, 2001-len(line)), api.ErrLong)
		}
	}
	isSource(t, strings.Repeat("\n", 1994)+"drop 1", api.Source{Drop: []int{1}})
	isRefused(t, strings.Repeat("\n", 1995)+"drop 1", api.ErrLong)
	isRefused(t, strings.Repeat("\n", 1999)+"@%", api.ErrSign)
	isRefused(t, strings.Repeat("\n", 1999)+"@x", api.ErrForm)
	isRefused(t, strings.Repeat("\n", 2000)+"x", api.ErrLong)
	isRefused(t, "what "+strings.Repeat("%", 1996), api.ErrLong)
	isSource(t, "##"+strings.Repeat("é", 999), api.Source{}) // 2000 bytes
	isRefused(t, "#"+strings.Repeat("é", 1000), api.ErrLong) // not as many code points
}

// P10.1: ErrLong of a word that is empty or of more than MaxWord code points.
func TestLongWords(t *testing.T) {
	for _, word := range []string{"skip", "keep"} {
		isRefused(t, "@"+word+" \"\"", api.ErrLong)
		isRefused(t, "drop 1\n @"+word+" \"\"\n"+word+" \"\"", api.ErrLong)
		for _, r := range []string{"a", " ", "é", "€", "\U0001F600", `\"`, `\\`, "\r", "\x00", "\u0301"} {
			isRead(t, word+" \""+r+"\"")
			isRead(t, word+" \""+strings.Repeat(r, 20)+"\"")
			isRefused(t, "@"+word+" \""+strings.Repeat(r, 21)+"\"", api.ErrLong)
		}
	}
}

// P10.1: ErrSize: of MaxPlaces places and one more, variables filled in; and of
// more nodes than an expression may have.
func TestSize(t *testing.T) {
	isRead(t, "$w = "+wide(60))
	isRefused(t, "@$w = "+wide(61), api.ErrSize)
	w := "$w = " + wide(60) + "\n$v = " + wide(30) + "\n"
	for _, s := range []string{"$x = $w", "$x = $v $v", "$x = $w ()", "1: $w >< $w", "1: $v* $v >< ($v | $v)", "1: " + wide(60) + " <> " + wide(60), "1: $v " + wide(30) + " ><"} {
		isRead(t, w+s)
	}
	for _, s := range []string{"@$x = $w 'a", "@$x = $v $v 'a", "@$x = $w $w", "@$x = $v | $v | $v", "@1: $w 'a ><", "@1: >< 'a $w", "@1: $w >< $w 'a", "@1: $v 'a $v <> $w", "@1: " + wide(61) + " ><", "@1: >< " + wide(61)} {
		isRefused(t, w+s, api.ErrSize)
	}
	// A row of n that match the empty text has 2n - 1 nodes.
	isRead(t, "$e = "+strings.Repeat("()", 200))
	isRefused(t, "@$e = "+strings.Repeat("()", 201), api.ErrSize)
	isRead(t, "$e = "+strings.Repeat("()", 100)+"\n1: $e $e >< $e $e")
	isRefused(t, "$e = "+strings.Repeat("()", 101)+"\n@1: >< $e $e", api.ErrSize)
	isRefused(t, "@1: 'a"+strings.Repeat("*", 400)+" ><", api.ErrSize)
	isRead(t, "1: 'a"+strings.Repeat("*", 399)+" ><")
	isRefused(t, "@$a = 'a"+strings.Repeat("?", 1900), api.ErrSize)
}

// P10.1, P10.2: a variable that is used ahead of its line, in its own, behind
// it.
func TestVariables(t *testing.T) {
	for _, s := range []string{
		"@$a = $a", "@$a = 'x | $a*", "@$a = $b\n$b = 'x", "@1: $a ><\n$a = 'x", "@1: >< $a\n$a = 'x", "@1: 'a <> ('b $a)?", "$a = 'x\n@$b = $A", "$a = 'x\n@$b = $aa", "$a = 'x\n@$b = $c", "$a = 'x\n@1: $a >< $b", "$a = 'x\n@1: $b >< $a", "@1: $x >< $y",
	} {
		isRefused(t, s, api.ErrVar)
	}
	x := one(5, 'x')
	isSource(t, "$a = 'x\n$b = $a* 'y\n1: $b|$a >< $a", api.Source{
		Vars:  []api.Var{{Name: "a", E: x}, {Name: "b", E: api.Node{Kind: api.NCat, At: 13, Kids: []api.Node{{Kind: api.NStar, At: 13, Kids: []api.Node{x}}, one(17, 'y')}}}},
		Rules: []api.Rule{{N: 1, Left: api.Node{Kind: api.NAlt, At: 23, Kids: []api.Node{{Kind: api.NCat, At: 13, Kids: []api.Node{{Kind: api.NStar, At: 13, Kids: []api.Node{x}}, one(17, 'y')}}, x}}, Right: x}},
	})
	isSource(t, "$a = 'x\n1: $a ><\n$b= 'y\n2: $b >< $a", api.Source{
		Vars:  []api.Var{{Name: "a", E: x}, {Name: "b", E: one(21, 'y')}},
		Rules: []api.Rule{{N: 1, Left: x, Right: none(0)}, {N: 2, Left: one(21, 'y'), Right: x}},
	})
}

// P10.1: where several could be told of a line, the one that the chapter tells
// first.
func TestWhichIsTold(t *testing.T) {
	vars, rules, drops := rows(20, "$v%d = ()\n"), rows(30, "%d: ><\n"), rows(30, "drop %d\n")
	w := "$w = " + wide(60) + "\n"
	for _, c := range []struct {
		s   string
		err api.Errno
	}{
		{"parent en\n@parent x", api.ErrTag}, {"parent en\n@parent root", api.ErrTag}, {"parent en\n@parent de", api.ErrTwice},
		{vars + "@$v3 = ()", api.ErrTwice}, {vars + "@$v3 = $no", api.ErrTwice}, {vars + "@$v3 = " + wide(61), api.ErrTwice}, {vars + "@$x = $no", api.ErrMany}, {vars + "@$x = " + wide(61), api.ErrMany}, {"@$x = $no " + wide(61), api.ErrVar}, {"@$x = " + wide(61) + "$no", api.ErrVar}, {w + "@$x = $w $w $no", api.ErrVar},
		{rules + "@3: <>", api.ErrTwice}, {rules + "@3: $no >< $no", api.ErrTwice}, {rules + "@3: " + wide(61) + "><", api.ErrTwice}, {rules + "@33: $no ><", api.ErrMany}, {rules + "@33: >< " + wide(61), api.ErrMany},
		{w + "@1: $no $w $w ><", api.ErrVar}, {w + "@1: $w $w >< $no", api.ErrSize}, {w + "@1: $no >< $w $w", api.ErrVar}, {w + "@1: >< $no $w $w", api.ErrVar}, {w + "@1: $w >< $w 'a", api.ErrSize}, {w + "@1: $w >< $no", api.ErrVar},
		{drops + "@drop 3", api.ErrTwice}, {drops + "@drop 33", api.ErrMany},
	} {
		isRefused(t, c.s, c.err)
	}
	for _, word := range []string{"skip", "keep"} {
		words := rows(30, word+" \"%d\"\n")
		isRefused(t, words+"@"+word+" \"\"", api.ErrLong)
		isRefused(t, words+"@"+word+" \""+strings.Repeat("a", 21)+"\"", api.ErrLong)
		isRefused(t, words+"@"+word+" \"3\"", api.ErrTwice)
		isRefused(t, words+"@"+word+" \"x\"", api.ErrMany)
	}
}

// P10.1: a sign that can't stand in a line is told ahead of what is told of the
// whole line, and what is told of a line ahead of all in the lines behind it.
func TestFirstIsTold(t *testing.T) {
	for _, c := range []struct {
		s   string
		err api.Errno
	}{
		{"parent x @y", api.ErrForm}, {"parent en\nparent de @de", api.ErrForm}, {"$a = $a @)", api.ErrForm}, {"$a = ()\n$a = () @]", api.ErrForm}, {"$a = ()\n$a = @{Foo}", api.ErrProp}, {"1: ><\n1: $x @:", api.ErrForm}, {"1: ><\n1: $x >< [@'b-'a]", api.ErrSet}, {"1: $x@\n", api.ErrForm}, {"drop 1\ndrop 1 @1", api.ErrForm}, {"skip \"\" @\"\"", api.ErrForm}, {"1: @{Foo} | | ><", api.ErrProp}, {"1: @| {Foo} ><", api.ErrForm}, {"1: {Any} @5 >< {Foo}", api.ErrForm},
		{"@parent x\nwhat", api.ErrTag}, {"@what\nparent x", api.ErrForm}, {"drop 1\n@drop 1\n$a = $a\nparent 5", api.ErrTwice}, {"@$a = $b\n$b = {Foo}", api.ErrVar}, {"@skip \"\"\n(", api.ErrLong}, {"parent@\nen", api.ErrForm}, {"$a = ('b@\n) {Foo}", api.ErrForm},
	} {
		isRefused(t, c.s, c.err)
	}
}
