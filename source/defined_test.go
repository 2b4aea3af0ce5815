package source

import (
	"fmt"
	"math/rand"
	"reflect"
	"regexp"
	"slices"
	"strconv"
	"strings"
	"testing"
	"unicode/utf8"

	"hornbook/api"
	"hornbook/lex"
	"hornbook/regex"
	"hornbook/tag"
)

// fault is an error at a place.
type fault struct {
	at  int
	err api.Errno
}

// definedSource: P10.1 and P10.2, by lines that are cut at their marks ahead of
// being read.
func definedSource(s string) (api.Source, fault) {
	if len(s) > 2000 {
		return api.Source{}, fault{0, api.ErrLong}
	}
	signs, at, err := lex.Scan(s)
	if err != api.OK {
		return api.Source{}, fault{at, err}
	}
	var x api.Source
	for len(signs) > 0 {
		size := slices.IndexFunc(signs, func(t api.Token) bool { return t.Kind == api.TLine || t.Kind == api.TEnd })
		line, end := signs[:size:size], signs[size].At
		signs = signs[size+1:]
		if size == 0 {
			continue
		}
		var wrong fault
		switch line[0].Kind {
		case api.TName:
			wrong = definedVar(&x, line, end)
		case api.TNum:
			wrong = definedRule(&x, line, end)
		case api.TIdent:
			wrong = definedKeyword(&x, line, end)
		default:
			wrong = fault{line[0].At, api.ErrForm}
		}
		if wrong.err != api.OK {
			return api.Source{}, wrong
		}
	}
	return x, fault{}
}

// placeOf tells the place of a line's sign, or of its end.
func placeOf(line []api.Token, n, end int) int {
	if n < len(line) {
		return line[n].At
	}
	return end
}

// definedSide: all signs of l as an expression; there is none of none.
func definedSide(l []api.Token, behind int) (api.Node, fault) {
	if len(l) == 0 {
		return none(0), fault{}
	}
	e, n, err := regex.Read(l, 0)
	if err == api.OK && n < len(l) {
		err = api.ErrForm
	}
	if err != api.OK {
		return e, fault{placeOf(l, n, behind), err}
	}
	return e, fault{}
}

func definedVar(x *api.Source, line []api.Token, end int) fault {
	if len(line) < 2 || line[1].Kind != api.TSign || line[1].Text != "=" {
		return fault{placeOf(line, 1, end), api.ErrForm}
	}
	if len(line) == 2 {
		return fault{end, api.ErrForm}
	}
	e, wrong := definedSide(line[2:], end)
	if wrong.err != api.OK {
		return wrong
	}
	values := map[string]api.Node{}
	for _, v := range x.Vars {
		values[v.Name] = v.E
	}
	_, isTwice := values[line[0].Text]
	e, err := definedFill(e, values)
	switch {
	case isTwice:
		err = api.ErrTwice
	case len(x.Vars) >= 20:
		err = api.ErrMany
	}
	x.Vars = append(x.Vars, api.Var{Name: line[0].Text, E: e})
	return fault{line[0].At, err}
}

func definedRule(x *api.Source, line []api.Token, end int) fault {
	if len(line) < 2 || line[1].Kind != api.TSign || line[1].Text != ":" {
		return fault{placeOf(line, 1, end), api.ErrForm}
	}
	mark := slices.IndexFunc(line, func(t api.Token) bool { return t.Kind == api.TSign && (t.Text == "><" || t.Text == "<>") })
	if mark < 0 {
		_, wrong := definedSide(line[2:], end)
		if wrong.err == api.OK {
			wrong = fault{end, api.ErrForm}
		}
		return wrong
	}
	left, wrong := definedSide(line[2:mark], line[mark].At)
	if wrong.err != api.OK {
		return wrong
	}
	right, wrong := definedSide(line[mark+1:], end)
	if wrong.err != api.OK {
		return wrong
	}
	values := map[string]api.Node{}
	for _, v := range x.Vars {
		values[v.Name] = v.E
	}
	left, err := definedFill(left, values)
	right, errRight := definedFill(right, values)
	if err == api.OK {
		err = errRight
	}
	n, _ := strconv.Atoi(line[0].Text)
	if len(x.Rules) >= 30 {
		err = api.ErrMany
	}
	for _, r := range x.Rules {
		if r.N == n {
			err = api.ErrTwice
		}
	}
	x.Rules = append(x.Rules, api.Rule{N: n, Break: line[mark].Text == "<>", Left: left, Right: right})
	return fault{line[0].At, err}
}

func definedKeyword(x *api.Source, line []api.Token, end int) fault {
	kind, ok := map[string]int{"parent": api.TIdent, "drop": api.TNum, "skip": api.TWord, "keep": api.TWord}[line[0].Text]
	if !ok {
		return fault{line[0].At, api.ErrForm}
	}
	if len(line) < 2 || line[1].Kind != kind {
		return fault{placeOf(line, 1, end), api.ErrForm}
	}
	if len(line) > 2 {
		return fault{line[2].At, api.ErrForm}
	}
	text, err := line[1].Text, api.OK
	switch line[0].Text {
	case "parent":
		canon, bad := tag.Canon(text)
		if x.Parent != "" {
			err = api.ErrTwice
		}
		if bad != api.OK || canon == "root" {
			err = api.ErrTag
		}
		x.Parent = canon
	case "drop":
		n, _ := strconv.Atoi(text)
		if len(x.Drop) >= 30 {
			err = api.ErrMany
		}
		if slices.Contains(x.Drop, n) {
			err = api.ErrTwice
		}
		x.Drop = append(x.Drop, n)
	case "skip":
		x.Skip, err = definedWord(x.Skip, text)
	case "keep":
		x.Keep, err = definedWord(x.Keep, text)
	}
	return fault{line[0].At, err}
}

func definedWord(list []string, text string) ([]string, api.Errno) {
	err := api.OK
	if len(list) >= 30 {
		err = api.ErrMany
	}
	if slices.Contains(list, text) {
		err = api.ErrTwice
	}
	if size := len([]rune(text)); size == 0 || size > 20 {
		err = api.ErrLong
	}
	return append(list, text), err
}

// definedFill: P8.3, by walking down.
func definedFill(e api.Node, values map[string]api.Node) (api.Node, api.Errno) {
	isThere := true
	var walk func(api.Node) api.Node
	walk = func(e api.Node) api.Node {
		if e.Kind == api.NVar {
			value, ok := values[e.Name]
			isThere = isThere && ok
			return value
		}
		var kids []api.Node
		for _, kid := range e.Kids {
			kids = append(kids, walk(kid))
		}
		e.Kids = kids
		return e
	}
	e = walk(e)
	if !isThere {
		return api.Node{}, api.ErrVar
	}
	if all, sets, _ := counts(e); all > 400 || sets > 60 {
		return api.Node{}, api.ErrSize
	}
	return e, api.OK
}

// counts tells how many nodes there are, how many NSet, how many NVar.
func counts(e api.Node) (all, sets, vars int) {
	all = 1
	switch e.Kind {
	case api.NSet:
		sets = 1
	case api.NVar:
		vars = 1
	}
	for _, kid := range e.Kids {
		a, s, v := counts(kid)
		all, sets, vars = all+a, sets+s, vars+v
	}
	return all, sets, vars
}

// nameForm is that of a TName's Text.
var nameForm = regexp.MustCompile(`\A[A-Za-z][A-Za-z0-9]{0,19}\z`)

// definedIs: P10.3.
func definedIs(x api.Source) bool {
	isExpr := func(e api.Node) bool {
		_, sets, vars := counts(e)
		return regex.Is(e) && vars == 0 && sets <= 60
	}
	canon, err := tag.Canon(x.Parent)
	ok := x.Parent == "" || err == api.OK && canon == x.Parent && canon != "root"
	ok = ok && len(x.Vars) <= 20 && len(x.Rules) <= 30 && len(x.Drop) <= 30 && len(x.Skip) <= 30 && len(x.Keep) <= 30
	seen := map[string]bool{}
	once := func(kind string, what any) bool {
		key := fmt.Sprint(kind, what)
		is := !seen[key]
		seen[key] = true
		return is
	}
	for _, v := range x.Vars {
		ok = ok && nameForm.MatchString(v.Name) && once("$", v.Name) && isExpr(v.E)
	}
	for _, r := range x.Rules {
		ok = ok && r.N >= 0 && r.N < 10000 && once(":", r.N) && isExpr(r.Left) && isExpr(r.Right)
	}
	for _, n := range x.Drop {
		ok = ok && n >= 0 && n < 10000 && once("drop", n)
	}
	for kind, list := range [][]string{x.Skip, x.Keep} {
		for _, w := range list {
			size := len([]rune(w))
			ok = ok && utf8.ValidString(w) && size > 0 && size <= 20 && strings.Count(w, "\n") == 0 && once(fmt.Sprint("word", kind), w)
		}
	}
	return ok
}

// definedPrint: P10.3's forms.
func definedPrint(x api.Source) string {
	quote := strings.NewReplacer(`\`, `\\`, `"`, `\"`)
	var b strings.Builder
	if x.Parent != "" {
		fmt.Fprintf(&b, "parent %s\n", x.Parent)
	}
	for _, v := range x.Vars {
		fmt.Fprintf(&b, "$%s = %s\n", v.Name, regex.Print(v.E))
	}
	for _, n := range x.Drop {
		fmt.Fprintf(&b, "drop %d\n", n)
	}
	for _, r := range x.Rules {
		fmt.Fprintf(&b, "%d: %s %s %s\n", r.N, regex.Print(r.Left), map[bool]string{false: "><", true: "<>"}[r.Break], regex.Print(r.Right))
	}
	for _, w := range x.Keep {
		fmt.Fprintf(&b, "keep \"%s\"\n", quote.Replace(w))
	}
	for _, w := range x.Skip {
		fmt.Fprintf(&b, "skip \"%s\"\n", quote.Replace(w))
	}
	return b.String()
}

// isDefined holds Parse against the definition, and tells its error.
func isDefined(t *testing.T, s string) api.Errno {
	t.Helper()
	want, wrong := definedSource(s)
	got, at, err := Parse(s)
	if at != wrong.at || err != wrong.err || !reflect.DeepEqual(plain(got), plain(want)) {
		t.Fatalf("Parse(%q) = %v, %d, %v, want %v, %v", s, got, at, err, want, wrong)
	}
	if err == api.OK && (!Is(got) || Print(got) != definedPrint(want)) {
		t.Fatalf("%q is %v, printed as %q", s, Is(got), Print(got))
	}
	return err
}

// alphabet has signs of each kind, in front of which a blank does no harm.
func alphabet() []string {
	return []string{"parent", "drop", "skip", "keep", "en", "x", "$a", "1", "\"w\"", "\"\"", "'c", "{Any}", "{Foo}", "[", "]", "(", ")", "|", "*", ".", "-", ":", "=", "><", "<>", "\n", "#"}
}

// P10.1: all rows of at most three signs, by themselves and behind a line.
func TestShortRowsAreDefined(t *testing.T) {
	signs := alphabet()
	isDefined(t, "")
	for _, a := range signs {
		isDefined(t, a)
		for _, b := range signs {
			isDefined(t, a+" "+b)
			for _, c := range signs {
				isDefined(t, a+" "+b+" "+c)
				isDefined(t, "$a = 'q\n"+a+" "+b+" "+c)
			}
		}
	}
}

// P10.1: all lines that go on as far as they reach, up to seven signs, and
// one sign more of each kind.
func TestLinesThatGoOnAreDefined(t *testing.T) {
	signs := alphabet()
	few := []string{"parent", "drop", "skip", "en", "$a", "1", "\"w\"", "'c", "{Any}", "[", "]", "(", ")", "|", "*", ":", "=", "><", "<>"}
	read := map[api.Errno]int{}
	var grow func(row string, left int)
	grow = func(row string, left int) {
		for _, sign := range signs {
			read[isDefined(t, row+sign)]++
		}
		for _, sign := range few {
			longer := row + sign
			if _, wrong := definedSource(longer); left > 0 && (wrong.err == api.OK || wrong.at >= len(longer) || wrong.at == 0 && longer != sign && wrong.err != api.ErrForm) {
				grow(longer+" ", left-1)
			}
		}
	}
	grow("", 6)
	for err, least := range map[api.Errno]int{api.OK: 1000, api.ErrForm: 10000, api.ErrVar: 1000, api.ErrProp: 500, api.ErrTag: 1, api.ErrLong: 1} {
		if read[err] < least {
			t.Errorf("%v: %d lines", err, read[err])
		}
	}
}

// P10.1, P10.2, P10.3: sources at random, most of whose lines are good.
func TestSourcesAtRandomAreDefined(t *testing.T) {
	random := rand.New(rand.NewSource(10))
	read := map[api.Errno]int{}
	for range 60000 {
		read[isDefined(t, sourceAtRandom(random))]++
	}
	for _, err := range []api.Errno{api.OK, api.ErrSign, api.ErrForm, api.ErrSet, api.ErrProp, api.ErrVar, api.ErrSize, api.ErrDeep, api.ErrTwice, api.ErrMany, api.ErrLong, api.ErrTag} {
		if read[err] < 20 {
			t.Errorf("%v: %d sources", err, read[err])
		}
	}
}

// sourceAtRandom tells a text of lines; how many faults it has hangs on chance.
func sourceAtRandom(random *rand.Rand) string {
	var b strings.Builder
	one := func(list ...string) string { return list[random.Intn(len(list))] }
	kinds, spread := []int{0, 1, 2, 3, 4, 5, 6, 7}, 5+random.Intn(2000)
	if random.Intn(3) == 0 { // many of one kind
		kinds, spread = []int{1 + random.Intn(5)}, 9999
	}
	for range random.Intn([]int{4, 12, 40}[random.Intn(3)]) {
		line := ""
		switch kinds[random.Intn(len(kinds))] {
		case 0:
			line = "parent " + one("en", "DE_at", "zh-hant", "root", "Root", "x", "en-", "es-419")
		case 1:
			line = "$" + one("a", "b", "c", "D", "e1", "f", "g", "h") + one("", "x", strconv.Itoa(random.Intn(spread))) + " = " + exprAtRandom(random)
		case 2:
			line = strconv.Itoa(random.Intn(spread)) + ": " + one("", exprAtRandom(random)) + one(" >< ", " <> ", "><") + one("", exprAtRandom(random))
		case 3:
			line = "drop " + strconv.Itoa(random.Intn(spread))
		case 4:
			line = "skip \"" + one("a", "é", `\"`, "w"+strconv.Itoa(random.Intn(spread)), strings.Repeat("é", 16+random.Intn(6))) + "\""
		case 5:
			line = "keep \"" + one("a", "b", "w"+strconv.Itoa(random.Intn(spread)), strings.Repeat("b", 21-random.Intn(21))) + "\""
		}
		if random.Intn(100) == 0 {
			from := random.Intn(len(line) + 1)
			line = line[:from] + one("", " ", "%", "\"\"", "'x", "=", ":", "><", "|", ")", "[", "1", "$a", "en", "{Foo}", "[ 'b - 'a ]") + line[min(len(line), from+random.Intn(2)):]
		}
		b.WriteString(one("", " ") + line + one("", " # x", "\r") + "\n")
	}
	return strings.TrimSuffix(b.String(), one("", "\n"))
}

// exprAtRandom tells the text of an expression.
func exprAtRandom(random *rand.Rand) string {
	one := func(list ...string) string { return list[random.Intn(len(list))] }
	s := one("'a", "'b 'c", "['a-'z]", ". {Digit}", "()", "('x | 'y)*", "'a+ 'b?", "[^ 'q {Han}]", "$a", "$b", "($c | 'd)", "$e1 $a", "'é")
	switch random.Intn(200) {
	case 0, 1, 2:
		s = strings.Repeat("("+s+")", 30+random.Intn(32))
	case 3:
		s += one("{Foo}", "[ {Any} {Foo} ]", "['b-'a]", "['a 'c-'b]", ")", strings.Repeat("(", 21))
	}
	return s
}

// P10.3: sources that are spoilt, or not, in a place by chance.
func TestTreesAtRandomAreDefined(t *testing.T) {
	random := rand.New(rand.NewSource(11))
	good := 0
	for range 20000 {
		x := treeAtRandom(random)
		want := definedIs(x)
		rules, err := Rules(x)
		if Is(x) != want || (err == api.OK) != want || !want && (err != api.ErrForm || len(rules) > 0 || Print(x) != "") || want && Print(x) != definedPrint(x) {
			t.Fatalf("%v: %v, %q, %v, %v", x, Is(x), Print(x), rules, err)
		}
		if !want {
			continue
		}
		good++
		sorted := plainRules(x.Rules)
		slices.SortFunc(sorted, func(a, b api.Rule) int { return a.N - b.N })
		if !reflect.DeepEqual(plainRules(rules), sorted) {
			t.Fatalf("Rules(%v) = %v", x, rules)
		}
	}
	if good < 3000 || good > 17000 {
		t.Errorf("%d of them are good", good)
	}
}

// treeAtRandom tells a source made by hand.
func treeAtRandom(random *rand.Rand) api.Source {
	rare := func() bool { return random.Intn(60) == 0 }
	expr := func() api.Node {
		e := nodeAtRandom(random, 1+random.Intn(6))
		if rare() {
			e = over(api.NCat, row(55+random.Intn(8)), e)
		}
		if rare() {
			e = over([]int{api.NCat, api.NStar, api.NSet, 0}[random.Intn(4)], e, api.Node{Kind: api.NVar, Name: "a"})
		}
		return e
	}
	num := func() int { return random.Intn([]int{300, 10000, 10020}[random.Intn(3)]) - random.Intn(100)/99 }
	some := func() int {
		if rare() {
			return 18 + random.Intn(14)
		}
		return random.Intn(4)
	}
	words := func(i int) string {
		return []string{word(i), word(random.Intn(300)), strings.Repeat("é", 1+random.Intn(20)), `"\` + word(i), " #" + word(i)}[random.Intn(5)]
	}
	x := api.Source{Parent: []string{"", "en", "de-AT", "sl-rozaj"}[random.Intn(4)]}
	if rare() {
		x.Parent = []string{"root", "EN", "x", "en_US", "en\n"}[random.Intn(5)]
	}
	x.Vars = many(some(), func(i int) api.Var {
		v := api.Var{Name: word(i + random.Intn(50)/49), E: expr()}
		if rare() {
			v.Name = []string{"", "1", "a b", "é", strings.Repeat("a", 21)}[random.Intn(5)]
		}
		return v
	})
	x.Rules = many(some(), func(int) api.Rule {
		return api.Rule{N: num(), Break: random.Intn(2) == 0, Left: expr(), Right: expr()}
	})
	x.Drop = many(some(), func(int) int { return num() })
	x.Skip, x.Keep = many(some(), words), many(some(), words)
	if rare() {
		x.Skip = append(x.Skip, []string{"", "a\nb", "\xff", strings.Repeat("a", 21)}[random.Intn(4)])
	}
	return x
}

// nodeAtRandom tells an expression of about so many places.
func nodeAtRandom(random *rand.Rand, size int) api.Node {
	if size <= 1 {
		e := []api.Node{none(0), one(0, 'a'), one(0, 0x10FFFF), {Kind: api.NSet}, {Kind: api.NSet, Set: []api.Range{{Lo: 0, Hi: 9}, {Lo: 'a', Hi: 'z'}}}}[random.Intn(5)]
		e.At = random.Intn(100) - 10
		return e
	}
	kind := api.NCat + random.Intn(api.NOpt-api.NCat+1)
	if kind == api.NCat || kind == api.NAlt {
		left := 1 + random.Intn(size-1)
		return over(kind, nodeAtRandom(random, left), nodeAtRandom(random, size-left))
	}
	return over(kind, nodeAtRandom(random, size-1))
}
