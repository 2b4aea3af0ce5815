package merge

import (
	"fmt"
	"math/rand"
	"reflect"
	"slices"
	"strings"
	"testing"
	"unicode/utf8"

	"hornbook/api"
	"hornbook/regex"
	"hornbook/source"
)

// definedBook: P12.1, from the youngest source back to the root's: the first of
// them that speaks of a number or of a word has the say.
func definedBook(l []api.Source) (api.Book, api.Errno) {
	var b api.Book
	numbers, words := map[int]bool{}, map[string]bool{}
	for _, x := range slices.Backward(l) {
		if !source.Is(x) {
			return api.Book{}, api.ErrForm
		}
		for _, r := range x.Rules {
			if !numbers[r.N] {
				b.Rules = append(b.Rules, api.Rule{N: r.N, Break: r.Break, Left: plainNode(r.Left, 0), Right: plainNode(r.Right, 0)})
			}
			numbers[r.N] = true
		}
		for _, n := range x.Drop {
			numbers[n] = true
		}
		for _, w := range x.Skip {
			if !words[w] {
				b.Skip = append(b.Skip, w)
			}
			words[w] = true
		}
		for _, w := range x.Keep {
			words[w] = true
		}
	}
	if len(b.Rules) > 30 || len(b.Skip) > 30 {
		return api.Book{}, api.ErrMany
	}
	slices.SortFunc(b.Rules, func(r, q api.Rule) int { return r.N - q.N })
	slices.SortFunc(b.Skip, func(v, w string) int { return slices.Compare([]byte(v), []byte(w)) })
	return b, api.OK
}

// definedIs: P12.2: what definedBook can tell, by what it is made of.
func definedIs(b api.Book) bool {
	ok := len(b.Rules) <= 30 && len(b.Skip) <= 30
	last := -1
	for _, r := range b.Rules {
		ok = ok && r.N > last && r.N < 10000 && isSide(r.Left) && isSide(r.Right)
		last = r.N
	}
	word := []byte{}
	for _, w := range b.Skip {
		ok = ok && slices.Compare([]byte(w), word) > 0 && utf8.ValidString(w) && len([]rune(w)) <= 20 && !strings.ContainsRune(w, '\n')
		word = []byte(w)
	}
	return ok
}

// isSide tells whether e can be a side in a book: it is read as itself where it
// isn't printed too deep for that, so here its parts are counted.
func isSide(e api.Node) bool {
	sets, vars, at := 0, 0, 0
	var walk func(api.Node)
	walk = func(e api.Node) {
		switch e.Kind {
		case api.NSet:
			sets++
		case api.NVar:
			vars++
		}
		at |= e.At
		for _, kid := range e.Kids {
			walk(kid)
		}
	}
	walk(e)
	return regex.Is(e) && sets <= 60 && vars == 0 && at == 0
}

// definedSame: P12.2, by what is there to be seen but for places.
func definedSame(a, b api.Book) bool {
	return reflect.DeepEqual(plain(a, 0), plain(b, 0))
}

// definedPrint: P12.2, with P10.3's forms.
func definedPrint(b api.Book) string {
	if !definedIs(b) {
		return ""
	}
	var out strings.Builder
	for _, r := range b.Rules {
		fmt.Fprintf(&out, "%d: %s %s %s\n", r.N, regex.Print(r.Left), map[bool]string{false: "><", true: "<>"}[r.Break], regex.Print(r.Right))
	}
	for _, w := range b.Skip {
		fmt.Fprintf(&out, "skip \"%s\"\n", strings.NewReplacer(`\`, `\\`, `"`, `\"`).Replace(w))
	}
	return out.String()
}

// plainNode tells e with lists that are nil where they are empty, and each At
// times so much.
func plainNode(e api.Node, times int) api.Node {
	out := api.Node{Kind: e.Kind, At: e.At * times, Name: e.Name, Set: append([]api.Range(nil), e.Set...)}
	for _, kid := range e.Kids {
		out.Kids = append(out.Kids, plainNode(kid, times))
	}
	return out
}

// plain tells a book likewise.
func plain(b api.Book, times int) api.Book {
	out := api.Book{Skip: append([]string(nil), b.Skip...)}
	for _, r := range b.Rules {
		out.Rules = append(out.Rules, api.Rule{N: r.N, Break: r.Break, Left: plainNode(r.Left, times), Right: plainNode(r.Right, times)})
	}
	return out
}

// isDefined holds Book against the definition, and tells what it tells.
func isDefined(t *testing.T, l []api.Source) (api.Book, api.Errno) {
	t.Helper()
	want, wantErr := definedBook(l)
	got, err := Book(l)
	if err != wantErr || !reflect.DeepEqual(plain(got, 1), plain(want, 1)) {
		t.Fatalf("P12.1: Book(%v) = %v, %v, want %v, %v", l, got, err, want, wantErr)
	}
	if !Is(got) || Print(got) != definedPrint(want) || !Same(got, want) {
		t.Fatalf("P12.2: of %v: %v, %q", got, Is(got), Print(got))
	}
	return got, err
}

// isKnown holds Is, Print and Same of a book that is made by hand against their
// definitions, and tells whether it is one.
func isKnown(t *testing.T, b api.Book) bool {
	t.Helper()
	want := definedIs(b)
	if Is(b) != want || Print(b) != definedPrint(b) || !Same(b, b) {
		t.Fatalf("P12.2: of %.500s: %v, %.500q, %v, want %v", fmt.Sprint(b), Is(b), Print(b), Same(b, b), want)
	}
	again, err := Book([]api.Source{{Rules: b.Rules, Skip: b.Skip}})
	if is := err == api.OK && reflect.DeepEqual(plain(again, 1), plain(b, 1)); is != want {
		t.Fatalf("P12.2: of %.500s Book tells %v, %v", fmt.Sprint(b), again, err)
	}
	return want
}

// Expressions.
func none(at int) api.Node { return api.Node{Kind: api.NNone, At: at} }

func one(at int, c int32) api.Node {
	return api.Node{Kind: api.NSet, At: at, Set: []api.Range{{Lo: c, Hi: c}}}
}

func over(kind int, kids ...api.Node) api.Node {
	return api.Node{Kind: kind, At: kids[0].At, Kids: kids}
}

// ways tells sources that do to a number and to a word all that one can do: the
// rules of the i-th one are told by their left side, with places.
func ways(i int) []api.Source {
	var out []api.Source
	mine := api.Rule{N: 7, Break: i%2 == 1, Left: over(api.NStar, one(i+3, 'a'+int32(i))), Right: none(0)}
	for bits := range 16 {
		var x api.Source
		if bits&1 != 0 {
			x.Drop = []int{7}
		}
		if bits&2 != 0 {
			x.Rules = []api.Rule{mine}
		}
		if bits&4 != 0 {
			x.Keep = []string{"w"}
		}
		if bits&8 != 0 {
			x.Skip = []string{"w"}
		}
		out = append(out, x)
	}
	return out
}

// P12.1, P12.3: all that up to four sources can do to one number and one word.
func TestAllWaysAreDefined(t *testing.T) {
	var grow func(l []api.Source)
	grow = func(l []api.Source) {
		isDefined(t, l)
		if len(l) < 4 {
			for _, x := range ways(len(l)) {
				grow(append(slices.Clone(l), x))
			}
		}
	}
	grow(nil)
}

// P12.1, P12.3: all orders in which some rules, drops, keeps and skips come that
// touch two numbers and two words, a source each.
func TestAllOrdersAreDefined(t *testing.T) {
	parts := []api.Source{
		{Rules: []api.Rule{{N: 2, Left: one(1, 'a'), Right: none(0)}, {N: 1, Left: one(1, 'b'), Right: none(0)}}, Skip: []string{"b", "a"}},
		{Rules: []api.Rule{{N: 1, Break: true, Left: none(3), Right: one(2, 'c')}}, Skip: []string{"ab"}},
		{Drop: []int{1, 3}, Keep: []string{"a", "c"}},
		{Drop: []int{2}, Rules: []api.Rule{{N: 3, Left: one(1, 'd'), Right: none(0)}}, Keep: []string{"ab"}, Skip: []string{"B"}},
		{Rules: []api.Rule{{N: 2, Left: one(1, 'e'), Right: none(0)}}, Keep: []string{"b"}, Skip: []string{"a"}},
		{Parent: "en", Vars: []api.Var{{Name: "x", E: one(1, 'x')}}, Drop: []int{2}, Skip: []string{"b"}},
	}
	told := map[string]int{}
	var grow func(l []api.Source, left []api.Source)
	grow = func(l, left []api.Source) {
		b, _ := isDefined(t, l)
		told[Print(b)]++
		for i, x := range left {
			grow(append(slices.Clone(l), x), slices.Delete(slices.Clone(left), i, i+1))
		}
	}
	grow(nil, parts)
	if len(told) < 50 {
		t.Errorf("%d books alone", len(told))
	}
}

// P12.1: sources at random, many of which are large, some of which are none.
func TestSourcesAtRandomAreDefined(t *testing.T) {
	random := rand.New(rand.NewSource(12))
	told := map[string]int{}
	for range 5000 {
		var l []api.Source
		spread := 1 + random.Intn(60)
		for range random.Intn(7) {
			l = append(l, sourceAtRandom(random, spread))
		}
		if len(l) > 0 && random.Intn(10) == 0 {
			spoilSource(random, &l[random.Intn(len(l))])
		}
		b, err := isDefined(t, l)
		told[fmt.Sprint(err)]++
		told[fmt.Sprint(len(b.Rules), " rules")]++
		told[fmt.Sprint(len(b.Skip), " words")]++
	}
	for what, least := range map[string]int{"error 0": 1000, "error 70": 200, "error 92": 500, "30 rules": 20, "30 words": 20} {
		if told[what] < least {
			t.Errorf("%s: %d", what, told[what])
		}
	}
}

// someOf tells some of the numbers below spread, each once, in any order.
func someOf(random *rand.Rand, spread int) []int {
	return random.Perm(spread)[:random.Intn(min(spread, 30)+1)]
}

func sourceAtRandom(random *rand.Rand, spread int) api.Source {
	var x api.Source
	for _, n := range someOf(random, spread) {
		x.Rules = append(x.Rules, api.Rule{N: n * 9999 / spread, Break: random.Intn(2) == 0, Left: nodeAtRandom(random, 3), Right: nodeAtRandom(random, 3)})
	}
	for _, n := range someOf(random, spread/3+1) {
		x.Drop = append(x.Drop, n*9999/spread)
	}
	for _, n := range someOf(random, spread) {
		x.Skip = append(x.Skip, wordOf(n))
	}
	for _, n := range someOf(random, spread/3+1) {
		x.Keep = append(x.Keep, wordOf(n))
	}
	return x
}

// spoilSource makes a source none.
func spoilSource(random *rand.Rand, x *api.Source) {
	switch random.Intn(6) {
	case 0:
		x.Parent = "root"
	case 1:
		x.Vars = append(x.Vars, api.Var{Name: "1", E: none(0)})
	case 2:
		x.Rules = append(x.Rules, api.Rule{N: 10000, Left: none(0), Right: none(0)})
	case 3:
		x.Drop = append(x.Drop, -1)
	case 4:
		x.Skip = append(x.Skip, "")
	case 5:
		x.Keep = append(x.Keep, "a\nb")
	}
}

// wordOf tells a word of a number; a higher one isn't always behind a lower one.
func wordOf(n int) string {
	letters := []string{"", "a", "B", "é", "\U0001F600", "\uFFFD", "\"", "\\"}
	return letters[n%8] + "." + letters[n/8%8]
}

// nodeAtRandom tells an expression with places.
func nodeAtRandom(random *rand.Rand, deep int) api.Node {
	kind := 1 + random.Intn(8)
	if deep == 0 || kind == api.NVar {
		kind = []int{api.NSet, api.NNone}[random.Intn(2)]
	}
	e := api.Node{Kind: kind, At: random.Intn(5)}
	switch kind {
	case api.NSet:
		from := int32(0)
		for range random.Intn(4) {
			from += 2 + int32(random.Intn(100))
			e.Set = append(e.Set, api.Range{Lo: from, Hi: from + int32(random.Intn(5))})
			from += 5
		}
	case api.NCat, api.NAlt:
		e.Kids = []api.Node{nodeAtRandom(random, deep-1), nodeAtRandom(random, deep-1)}
	case api.NStar, api.NPlus, api.NOpt:
		e.Kids = []api.Node{nodeAtRandom(random, deep-1)}
	}
	return e
}

// P12.2: books at random, some of them changed in one thing: what they are, and
// which of them are the same.
func TestBooksAtRandomAreDefined(t *testing.T) {
	random := rand.New(rand.NewSource(13))
	isBook, isSame := map[bool]int{}, map[bool]int{}
	for range 5000 {
		spread := 1 + random.Intn(20)
		b, err := Book([]api.Source{sourceAtRandom(random, spread), sourceAtRandom(random, spread)})
		if err != api.OK {
			t.Fatal(err)
		}
		other := plain(b, 1)
		changeAtRandom(random, &other)
		isBook[isKnown(t, other)]++
		same := definedSame(b, other)
		isSame[same]++
		if Same(b, other) != same || Same(other, b) != same {
			t.Fatalf("P12.2: Same(%v, %v) = %v", b, other, !same)
		}
	}
	if isBook[true] < 500 || isBook[false] < 500 || isSame[true] < 500 || isSame[false] < 500 {
		t.Errorf("%v, %v", isBook, isSame)
	}
}

// changeAtRandom changes one thing of a book, or none.
func changeAtRandom(random *rand.Rand, b *api.Book) {
	if len(b.Rules) > 0 {
		i, j := random.Intn(len(b.Rules)), random.Intn(len(b.Rules))
		side := &b.Rules[i].Left
		if random.Intn(2) == 0 {
			side = &b.Rules[i].Right
		}
		for len(side.Kids) > 0 && random.Intn(3) > 0 {
			side = &side.Kids[random.Intn(len(side.Kids))]
		}
		switch random.Intn(12) {
		case 0:
			b.Rules[i].N += random.Intn(3) - 1
		case 1:
			b.Rules[i].Break = !b.Rules[i].Break
		case 2, 3:
			side.At = random.Intn(3) - 1
		case 4:
			*side = plainNode(nodeAtRandom(random, 2), 0)
		case 5:
			*side = api.Node{Kind: api.NVar, Name: "x"}
		case 6:
			b.Rules = slices.Delete(b.Rules, i, i+1)
		case 7:
			b.Rules[i], b.Rules[j] = b.Rules[j], b.Rules[i]
		case 8:
			side.Kind = random.Intn(10)
		}
	}
	if len(b.Skip) > 0 {
		i, j := random.Intn(len(b.Skip)), random.Intn(len(b.Skip))
		switch random.Intn(8) {
		case 0:
			b.Skip[i] = wordOf(random.Intn(64))
		case 1:
			b.Skip[i], b.Skip[j] = b.Skip[j], b.Skip[i]
		case 2:
			b.Skip = slices.Delete(b.Skip, i, i+1)
		case 3:
			b.Skip[i] += []string{"", "\n", "\xFF", strings.Repeat("z", 20)}[random.Intn(4)]
		}
	}
}
