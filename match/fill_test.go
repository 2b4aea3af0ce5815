package match

import (
	"math/rand"
	"reflect"
	"strconv"
	"strings"
	"testing"

	"hornbook/api"
	"hornbook/regex"
)

// at tells e with another place.
func at(place int, e api.Node) api.Node {
	e.At = place
	return e
}

// plain tells e with nil for each list without anything.
func plain(e api.Node) api.Node {
	var kids []api.Node
	for _, kid := range e.Kids {
		kids = append(kids, plain(kid))
	}
	e.Kids, e.Set = kids, append([]api.Range(nil), e.Set...)
	return e
}

// isFilled holds that Fill tells want, places too.
func isFilled(t *testing.T, e api.Node, vars []api.Var, want api.Node) {
	t.Helper()
	got, err := Fill(e, vars)
	if err != api.OK || !reflect.DeepEqual(plain(got), plain(want)) {
		t.Errorf("Fill(%.200v, %.200v) = %.300v, %v, want %.300v", e, vars, got, err, want)
	}
}

// isRefused holds that Fill tells an error, and nothing else.
func isRefused(t *testing.T, e api.Node, vars []api.Var, want api.Errno) {
	t.Helper()
	got, err := Fill(e, vars)
	if err != want || !reflect.DeepEqual(plain(got), api.Node{}) {
		t.Errorf("Fill(%.200v, %.200v) = %.200v, %v, want %v", e, vars, got, err, want)
	}
}

// P8.3: with no variables, an expression stays as it is, whatever vars has.
func TestFillOfPlain(t *testing.T) {
	vars := []api.Var{{Name: "x", E: one('x')}, {Name: "", E: none()}}
	for _, s := range []string{"'a", "()", "[]", "'a*", "'a'b|'c+", "(('a|())?'b)*", "['a'c'e-'g].{Digit}"} {
		e := read(t, s)
		isFilled(t, e, nil, e)
		isFilled(t, e, []api.Var{}, e)
		isFilled(t, e, vars, e)
	}
}

// P8.3: each variable is replaced, by the first of its name; places are those
// of what is put in.
func TestFill(t *testing.T) {
	a, b := at(5, one('a')), at(9, over(api.NStar, at(9, one('b'))))
	x, y := at(100, variable("x")), at(200, variable("y"))
	vars := []api.Var{{Name: "x", E: a}, {Name: "y", E: b}}
	isFilled(t, x, vars, a)
	isFilled(t, y, vars, b)
	isFilled(t, x, vars[:1], a)
	for _, kind := range []int{api.NStar, api.NPlus, api.NOpt} {
		isFilled(t, at(3, over(kind, x)), vars, at(3, over(kind, a)))
		isFilled(t, at(3, over(kind, at(4, over(kind, y)))), vars, at(3, over(kind, at(4, over(kind, b)))))
	}
	for _, kind := range []int{api.NCat, api.NAlt} {
		isFilled(t, at(3, over(kind, x, y)), vars, at(3, over(kind, a, b)))
		isFilled(t, at(3, over(kind, y, x)), vars, at(3, over(kind, b, a)))
		isFilled(t, at(3, over(kind, x, x)), vars, at(3, over(kind, a, a)))
		isFilled(t, at(3, over(kind, at(7, none()), y)), vars, at(3, over(kind, at(7, none()), b)))
		isFilled(t, at(-3, over(kind, over(kind, y, a), over(kind, x, b))), vars, at(-3, over(kind, over(kind, b, a), over(kind, a, b))))
	}
	isFilled(t, read(t, "$x 'q"), vars, at(0, over(api.NCat, a, at(3, one('q'))))) // its own place stays where its first kid's goes
}

// P8.3: of several of one name the first one counts.
func TestFillByTheFirst(t *testing.T) {
	vars := []api.Var{{Name: "y", E: one('1')}, {Name: "x", E: one('2')}, {Name: "x", E: one('3')}, {Name: "y", E: one('4')}, {Name: "x", E: over(api.NStar)}}
	isFilled(t, variable("x"), vars, one('2'))
	isFilled(t, variable("y"), vars, one('1'))
	isFilled(t, variable("x"), vars[2:], one('3'))
	isFilled(t, variable("y"), vars[1:], one('4'))
	isRefused(t, variable("x"), vars[3:], api.ErrSize)
}

// P8.3: what is put in stays as it stands: a variable in it isn't replaced, nor
// need there be one of its name.
func TestFillIsDoneOnce(t *testing.T) {
	vars := []api.Var{{Name: "x", E: at(1, variable("y"))}, {Name: "y", E: one('y')}, {Name: "z", E: at(2, over(api.NOpt, at(3, variable("z"))))}, {Name: "w", E: over(api.NCat, variable("nowhere"), variable("x"))}}
	isFilled(t, variable("x"), vars, at(1, variable("y")))
	isFilled(t, variable("z"), vars, vars[2].E)
	isFilled(t, variable("w"), vars, vars[3].E)
	isFilled(t, over(api.NAlt, variable("w"), over(api.NCat, variable("y"), variable("x"))), vars, over(api.NAlt, vars[3].E, over(api.NCat, one('y'), at(1, variable("y")))))
}

// P8.3: names are held against each other byte by byte.
func TestFillNames(t *testing.T) {
	vars := []api.Var{{Name: "a", E: one('1')}, {Name: "A", E: one('2')}, {Name: "ab", E: one('3')}, {Name: "", E: one('4')}, {Name: "a b", E: one('5')}, {Name: "a\x00", E: one('6')}, {Name: "\xFF", E: one('7')}}
	for _, v := range vars {
		isFilled(t, over(api.NStar, variable(v.Name)), vars, over(api.NStar, v.E))
	}
	for _, name := range []string{"b", "aB", "abc", " ", "a ", "$a", "\xFE"} {
		isRefused(t, variable(name), vars, api.ErrVar)
	}
	isRefused(t, variable(""), vars[:3], api.ErrVar)
}

// P8.3: ErrVar, if there is none of that name, wherever it stands.
func TestErrVar(t *testing.T) {
	vars := []api.Var{{Name: "x", E: one('a')}}
	isRefused(t, variable("x"), nil, api.ErrVar)
	isRefused(t, variable("y"), vars, api.ErrVar)
	for _, s := range []string{"$y*", "$y|$x", "$x|$y", "$x$x$x$y", "$y$x$x$x", "(('a|$x)*'b$y?)+"} {
		isRefused(t, read(t, s), vars, api.ErrVar)
		isRefused(t, read(t, s), nil, api.ErrVar)
	}
}

// row tells a cat of so many sets: 2n - 1 nodes.
func row(n int) api.Node {
	e := one('a')
	for range n - 1 {
		e = over(api.NCat, e, one('b'))
	}
	return e
}

// P8.3: MaxPlaces places, and one more.
func TestFillPlaces(t *testing.T) {
	isFilled(t, row(60), nil, row(60))
	isRefused(t, row(61), nil, api.ErrSize)
	for n := 1; n <= 60; n++ {
		vars := []api.Var{{Name: "w", E: row(n)}}
		isFilled(t, variable("w"), vars, row(n))
		e := over(api.NAlt, row(60-n+1), variable("w"))
		isRefused(t, e, vars, api.ErrSize)
		if n < 60 {
			isFilled(t, over(api.NAlt, row(60-n), variable("w")), vars, over(api.NAlt, row(60-n), row(n)))
		}
	}
	twice := over(api.NCat, variable("w"), variable("w"))
	isFilled(t, twice, []api.Var{{Name: "w", E: row(30)}}, over(api.NCat, row(30), row(30)))
	isRefused(t, twice, []api.Var{{Name: "w", E: row(31)}}, api.ErrSize)
	isRefused(t, variable("w"), []api.Var{{Name: "w", E: row(61)}}, api.ErrSize)
	empty := set() // a set without anything is a place, what has none isn't
	isFilled(t, over(api.NCat, variable("w"), over(api.NStar, none())), []api.Var{{Name: "w", E: row(60)}}, over(api.NCat, row(60), over(api.NStar, none())))
	isRefused(t, over(api.NCat, variable("w"), empty), []api.Var{{Name: "w", E: row(60)}}, api.ErrSize)
	isFilled(t, over(api.NCat, variable("w"), variable("v")), []api.Var{{Name: "w", E: row(60)}, {Name: "v", E: variable("u")}}, over(api.NCat, row(60), variable("u")))
}

// P8.3: ErrSize of what wouldn't be regex's Is.
func TestFillOfNone(t *testing.T) {
	good := []api.Var{{Name: "x", E: one('a')}}
	for _, bad := range []api.Node{{}, {Kind: 9}, {Kind: api.NStar}, {Kind: api.NVar}, variable("a b"), variable("1"), over(api.NCat, none()), over(api.NNone, none()), {Kind: api.NNone, Name: "x"}, set('b', 'a'), set('a', 'a', 'b', 'b'), set(0, 0x110000), {Kind: api.NSet, Name: "x"}} {
		vars := []api.Var{{Name: "x", E: bad}, {Name: "y", E: one('a')}}
		isRefused(t, variable("x"), vars, api.ErrSize)
		isRefused(t, over(api.NAlt, variable("y"), over(api.NOpt, variable("x"))), vars, api.ErrSize)
		isFilled(t, variable("y"), vars, one('a')) // what isn't put in doesn't count
		if bad.Kind == api.NVar {
			isRefused(t, bad, good, api.ErrVar)
			continue
		}
		isRefused(t, bad, nil, api.ErrSize)
		isRefused(t, bad, good, api.ErrSize)
		isRefused(t, over(api.NCat, variable("x"), bad), good, api.ErrSize)
	}
	isRefused(t, over(api.NStar, variable("x"), variable("x")), good, api.ErrSize)
	isRefused(t, api.Node{Kind: api.NStar, Name: "n", Kids: []api.Node{variable("x")}}, good, api.ErrSize)
}

// P8.3: a variable is replaced whole, whatever was wrong with it.
func TestFillOfStrangeVariables(t *testing.T) {
	strange := api.Node{Kind: api.NVar, Name: "x", Set: set('b', 'a').Set, Kids: []api.Node{variable("nowhere"), {Kind: 9}}}
	vars := []api.Var{{Name: "x", E: one('a')}}
	isFilled(t, strange, vars, one('a'))
	isFilled(t, over(api.NPlus, strange), vars, over(api.NPlus, one('a')))
	isRefused(t, strange, []api.Var{{Name: "x", E: strange}}, api.ErrSize)
}

// P8.3: 400 nodes are regex's Is, with no more places than may be, one more
// isn't.
func TestFillNodes(t *testing.T) {
	deep := nested(one('a'), api.NStar, 199)
	vars := []api.Var{{Name: "d", E: deep}, {Name: "s", E: one('a')}}
	isFilled(t, nested(variable("d"), api.NOpt, 200), vars, nested(deep, api.NOpt, 200))
	isRefused(t, nested(variable("d"), api.NOpt, 201), vars, api.ErrSize)
	isFilled(t, nested(variable("s"), api.NOpt, 399), vars, nested(one('a'), api.NOpt, 399))
	isRefused(t, nested(variable("s"), api.NOpt, 400), vars, api.ErrSize)
	isFilled(t, over(api.NStar, over(api.NOpt, over(api.NCat, variable("d"), nested(one('b'), api.NPlus, 196)))), vars, over(api.NStar, over(api.NOpt, over(api.NCat, deep, nested(one('b'), api.NPlus, 196)))))
	isRefused(t, over(api.NCat, variable("d"), variable("d")), vars, api.ErrSize)
	large := api.Node{Kind: api.NSet}
	for i := range int32(201) {
		large.Set = append(large.Set, api.Range{Lo: 2 * i, Hi: 2 * i})
	}
	isRefused(t, variable("l"), []api.Var{{Name: "l", E: large}}, api.ErrSize)
	large.Set = large.Set[:200]
	isFilled(t, variable("l"), []api.Var{{Name: "l", E: large}}, large)
}

// P8.3: where both would be, ErrVar.
func TestErrVarIsFirst(t *testing.T) {
	vars := []api.Var{{Name: "w", E: row(60)}, {Name: "bad", E: api.Node{Kind: 9}}}
	for _, e := range []api.Node{
		over(api.NCat, over(api.NCat, variable("w"), variable("w")), variable("no")),
		over(api.NCat, variable("no"), over(api.NCat, variable("w"), variable("w"))),
		over(api.NCat, variable("bad"), variable("no")),
		over(api.NCat, variable("no"), variable("bad")),
		over(api.NCat, row(61), variable("no")),
		over(api.NStar, none(), none(), variable("no")),
		over(77, variable("w"), variable("no")),
		over(api.NSet, variable("no")),
		over(api.NNone, variable("no")),
		over(api.NCat, api.Node{}, over(api.NAlt, variable("no"))),
		nested(variable("no"), api.NOpt, 400),
		nested(variable("no"), api.NOpt, 100000),
	} {
		isRefused(t, e, vars, api.ErrVar)
		isRefused(t, e, append(vars, api.Var{Name: "no", E: one('a')}), api.ErrSize)
	}
	wide := api.Node{Kind: api.NCat, Kids: make([]api.Node, 100000)}
	isRefused(t, wide, vars, api.ErrSize)
	wide.Kids[99999] = variable("no")
	isRefused(t, wide, vars, api.ErrVar)
}

// P8.3: what is put in many times, or is large, ends all the same.
func TestFillOfMuch(t *testing.T) {
	many := api.Node{Kind: api.NCat, Kids: make([]api.Node, 100000)}
	for i := range many.Kids {
		many.Kids[i] = variable("m")
	}
	large := api.Node{Kind: api.NSet, Set: make([]api.Range, 1000000)}
	isRefused(t, many, []api.Var{{Name: "m", E: many}}, api.ErrSize)
	isRefused(t, many, []api.Var{{Name: "m", E: large}}, api.ErrSize)
	isRefused(t, many, []api.Var{{Name: "m", E: nested(one('a'), api.NStar, 100000)}}, api.ErrSize)
	few := variable("m")
	for range 199 {
		few = over(api.NCat, few, variable("m"))
	}
	isRefused(t, few, []api.Var{{Name: "m", E: large}}, api.ErrSize)
	var vars []api.Var
	for i := range many.Kids {
		name := "v" + strconv.Itoa(i)
		many.Kids[i] = variable(name)
		vars = append(vars, api.Var{Name: name, E: one('a')})
	}
	isRefused(t, many, vars, api.ErrSize)
	isRefused(t, many, vars[1:], api.ErrVar)
	isFilled(t, variable("v99999"), vars, one('a'))
}

// definedFill: P8.3 by the printed text: what is printed of an expression is
// laid into it where the name stands. (Names are of one letter here, and what
// is laid in has none.)
func definedFill(e api.Node, vars []api.Var) (string, api.Errno) {
	text := regex.Print(e)
	for _, v := range vars { // behind the first of a name none is left
		text = strings.ReplaceAll(text, "$"+v.Name, regex.Print(v.E))
	}
	if strings.Contains(text, "$") {
		return "", api.ErrVar
	}
	if strings.Count(text, "[") > 60 || countNodes(e, vars) > 400 {
		return "", api.ErrSize
	}
	return text, api.OK
}

// withVariables tells e with variables at some of its leaves.
func withVariables(source *rand.Rand, e api.Node, names string) api.Node {
	if len(e.Kids) == 0 && source.Intn(2) == 0 {
		return variable(string(names[source.Intn(len(names))]))
	}
	out := e
	out.Kids = nil
	for _, kid := range e.Kids {
		out.Kids = append(out.Kids, withVariables(source, kid, names))
	}
	return out
}

// P8.3: many trees, held against what is printed of them.
func TestFillIsDefined(t *testing.T) {
	source := rand.New(rand.NewSource(83))
	counts := map[api.Errno]int{}
	for range 4000 {
		e := withVariables(source, randomTree(source, 1+source.Intn(60)), "abcd")
		var vars []api.Var
		for _, name := range "abcdabcd"[:4+source.Intn(5)] {
			if source.Intn(30) > 0 {
				vars = append(vars, api.Var{Name: string(name), E: randomTree(source, 1+source.Intn(40))})
			}
		}
		if source.Intn(2) == 0 {
			source.Shuffle(len(vars), func(i, j int) { vars[i], vars[j] = vars[j], vars[i] })
		}
		text, want := definedFill(e, vars)
		counts[want]++
		got, err := Fill(e, vars)
		if err != want || regex.Print(got) != text {
			t.Fatalf("Fill(%s, %v) = %s, %v, want %s, %v", regex.Print(e), vars, regex.Print(got), err, text, want)
		}
	}
	for _, err := range []api.Errno{api.OK, api.ErrVar, api.ErrSize} {
		if counts[err] < 100 {
			t.Errorf("%v: %d", err, counts[err])
		}
	}
}

// countNodes tells how many nodes e has with vars in it, each of which is there.
func countNodes(e api.Node, vars []api.Var) int {
	if e.Kind == api.NVar {
		for _, v := range vars {
			if v.Name == e.Name {
				return countNodes(v.E, nil)
			}
		}
	}
	count := 1
	for _, kid := range e.Kids {
		count += countNodes(kid, vars)
	}
	return count
}

// P8.3, P8.1: what is filled matches what it matches with its variables'
// expressions in their place.
func TestFilledMatches(t *testing.T) {
	vars := []api.Var{{Name: "x", E: read(t, "'a'b")}, {Name: "y", E: read(t, "'c|()")}}
	e, err := Fill(read(t, "$x* $y"), vars)
	if err != api.OK {
		t.Fatal(err)
	}
	for _, s := range []string{"", "c", "ab", "abab", "abc", "ababc"} {
		if !All(e, points(s)) {
			t.Errorf("%q", s)
		}
	}
	for _, s := range []string{"a", "abb", "aba", "cc", "abcc", "ca"} {
		if All(e, points(s)) {
			t.Errorf("%q", s)
		}
	}
}
