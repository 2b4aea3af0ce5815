package match

import (
	"math/rand"
	"slices"
	"testing"

	"hornbook/api"
	"hornbook/regex"
)

// table tells, for each two places of a text, whether it is matched from the
// one up to the other.
type table [][]bool

func newTable(size int) table {
	out := make(table, size)
	for i := range out {
		out[i] = make([]bool, size)
	}
	return out
}

// standing is what the empty text is in, and nothing else.
func standing(size int) table {
	out := newTable(size)
	for i := range out {
		out[i][i] = true
	}
	return out
}

func (a table) or(b table) table {
	out := newTable(len(a))
	for i := range out {
		for j := range out {
			out[i][j] = a[i][j] || b[i][j]
		}
	}
	return out
}

func (a table) behind(b table) table {
	out := newTable(len(a))
	for i := range out {
		for k := range out {
			for j := range out {
				out[i][j] = out[i][j] || a[i][k] && b[k][j]
			}
		}
	}
	return out
}

// repeated is none or some, one behind the other: as many as there are places
// are enough, as more of them have an empty one among them.
func (a table) repeated() table {
	out := standing(len(a))
	for range len(a) {
		out = out.or(out.behind(a))
	}
	return out
}

// defined: P8.1, for all pieces of text at once.
func defined(e api.Node, text []int32) table {
	size := len(text) + 1
	var kids []table
	for _, kid := range e.Kids {
		kids = append(kids, defined(kid, text))
	}
	switch e.Kind {
	case api.NSet:
		out := newTable(size)
		for i, point := range text {
			for _, r := range e.Set {
				out[i][i+1] = out[i][i+1] || r.Lo <= point && point <= r.Hi
			}
		}
		return out
	case api.NNone:
		return standing(size)
	case api.NCat:
		return kids[0].behind(kids[1])
	case api.NAlt:
		return kids[0].or(kids[1])
	case api.NStar:
		return kids[0].repeated()
	case api.NPlus:
		return kids[0].behind(kids[0].repeated())
	case api.NOpt:
		return standing(size).or(kids[0])
	}
	panic("no kind")
}

// isDefined holds all that the calls tell of e and text against the definition.
func isDefined(t *testing.T, e api.Node, text []int32) {
	t.Helper()
	want := defined(e, text)
	for at := range want {
		var ends, begins []int
		for other := range want {
			if want[at][other] {
				ends = append(ends, other)
			}
			if want[other][at] {
				begins = append(begins, other)
			}
		}
		if got := Ends(e, text, at); !slices.Equal(got, ends) {
			t.Fatalf("Ends(%s, %v, %d) = %v, want %v", regex.Print(e), text, at, got, ends)
		}
		if got := Begins(e, text, at); !slices.Equal(got, begins) {
			t.Fatalf("Begins(%s, %v, %d) = %v, want %v", regex.Print(e), text, at, got, begins)
		}
	}
	if got := All(e, text); got != want[0][len(text)] {
		t.Fatalf("All(%s, %v) = %v", regex.Print(e), text, got)
	}
	if got := Null(e); got != want[0][0] {
		t.Fatalf("Null(%s) = %v", regex.Print(e), got)
	}
}

// trees tells all expressions of a few nodes, by how many they have.
func trees(most int) [][]api.Node {
	leaves := []api.Node{one('a'), set('a', 'b'), set(), none()}
	out := [][]api.Node{nil, leaves}
	for size := 2; size <= most; size++ {
		var all []api.Node
		for _, kid := range out[size-1] {
			for _, kind := range []int{api.NStar, api.NPlus, api.NOpt} {
				all = append(all, over(kind, kid))
			}
		}
		for left := 1; left <= size-2; left++ {
			for _, a := range out[left] {
				for _, b := range out[size-1-left] {
					all = append(all, over(api.NCat, a, b), over(api.NAlt, a, b))
				}
			}
		}
		out = append(out, all)
	}
	return out
}

// texts tells all texts of a, b and c up to a length.
func texts(most int) [][]int32 {
	out := [][]int32{nil}
	for from, length := 0, 1; length <= most; length++ {
		to := len(out)
		for _, text := range out[from:to] {
			for _, point := range []int32{'a', 'b', 'c'} {
				out = append(out, append(slices.Clone(text), point))
			}
		}
		from = to
	}
	return out
}

// P8.1, P8.2: each kind alone and within the others, with all short texts.
func TestSmallExpressionsAreDefined(t *testing.T) {
	for size, all := range trees(5) {
		short := texts(max(1, 6-size))
		for _, e := range all {
			for _, text := range short {
				isDefined(t, e, text)
			}
		}
	}
}

// randomTree tells an expression of about so many nodes.
func randomTree(source *rand.Rand, size int) api.Node {
	if size <= 1 {
		lo := int32('a' + source.Intn(3))
		leaves := []api.Node{none(), set(), set('a', 'a', 'c', 'c')}
		if pick := source.Intn(12); pick < len(leaves) {
			return leaves[pick]
		}
		return set(lo, lo+int32(source.Intn(2)))
	}
	if source.Intn(5) < 2 || size == 2 {
		return over([]int{api.NStar, api.NPlus, api.NOpt}[source.Intn(3)], randomTree(source, size-1))
	}
	left := 1 + source.Intn(size-2)
	kind := []int{api.NCat, api.NCat, api.NAlt}[source.Intn(3)]
	return over(kind, randomTree(source, left), randomTree(source, size-1-left))
}

func randomText(source *rand.Rand, most int) []int32 {
	var out []int32
	for range source.Intn(most + 1) {
		out = append(out, int32('a'+source.Intn(4)))
	}
	return out
}

// P8.1, P8.2: greater ones, with longer texts.
func TestGreaterExpressionsAreDefined(t *testing.T) {
	source := rand.New(rand.NewSource(8))
	for range 3000 {
		isDefined(t, randomTree(source, 1+source.Intn(30)), randomText(source, 9))
	}
	for range 20 {
		isDefined(t, randomTree(source, 400), randomText(source, 20))
	}
}

// language tells all texts of a, b and c, up to a length, that e matches: as a
// set of texts, without any text at hand.
func language(e api.Node, most int) map[string]bool {
	out := map[string]bool{}
	join := func(a, b map[string]bool) map[string]bool {
		both := map[string]bool{}
		for x := range a {
			for y := range b {
				if len(x)+len(y) <= most {
					both[x+y] = true
				}
			}
		}
		return both
	}
	add := func(more map[string]bool) bool {
		before := len(out)
		for x := range more {
			out[x] = true
		}
		return len(out) > before
	}
	var kids []map[string]bool
	for _, kid := range e.Kids {
		kids = append(kids, language(kid, most))
	}
	switch e.Kind {
	case api.NSet:
		for _, point := range "abc" {
			for _, r := range e.Set {
				if r.Lo <= point && point <= r.Hi && most > 0 {
					out[string(point)] = true
				}
			}
		}
	case api.NNone:
		out[""] = true
	case api.NCat:
		add(join(kids[0], kids[1]))
	case api.NAlt:
		add(kids[0])
		add(kids[1])
	default:
		if e.Kind != api.NPlus {
			out[""] = true
		}
		add(kids[0])
		for e.Kind != api.NOpt && add(join(out, kids[0])) {
		}
	}
	return out
}

// P8.4: matching is membership: of a text, or of a piece of it, in the set of
// texts that an expression is.
func TestMatchingIsMembership(t *testing.T) {
	source := rand.New(rand.NewSource(84))
	all := texts(5)
	for range 400 {
		e := randomTree(source, 1+source.Intn(12))
		members := language(e, 5)
		for _, text := range all {
			if All(e, text) != members[string(text)] {
				t.Fatalf("All(%s, %v)", regex.Print(e), text)
			}
		}
		if Null(e) != members[""] {
			t.Fatalf("Null(%s)", regex.Print(e))
		}
		text := all[source.Intn(len(all))]
		for from := range len(text) + 1 {
			for to := from; to <= len(text); to++ {
				want := members[string(text[from:to])]
				if slices.Contains(Ends(e, text, from), to) != want || slices.Contains(Begins(e, text, to), from) != want {
					t.Fatalf("%s, %v from %d to %d", regex.Print(e), text, from, to)
				}
			}
		}
	}
}

// P8.4: what is the same set of texts matches the same, however it is written.
func TestLaws(t *testing.T) {
	source := rand.New(rand.NewSource(4))
	cat, alt, star := api.NCat, api.NAlt, api.NStar
	for range 500 {
		a, b, c := randomTree(source, 4), randomTree(source, 3), randomTree(source, 3)
		like := [][2]api.Node{
			{over(cat, a, none()), a},
			{over(cat, none(), a), a},
			{over(cat, set(), a), set()},
			{over(alt, a, set()), a},
			{over(alt, a, a), a},
			{over(alt, a, b), over(alt, b, a)},
			{over(alt, over(alt, a, b), c), over(alt, a, over(alt, b, c))},
			{over(cat, over(cat, a, b), c), over(cat, a, over(cat, b, c))},
			{over(cat, a, over(alt, b, c)), over(alt, over(cat, a, b), over(cat, a, c))},
			{over(cat, over(alt, a, b), c), over(alt, over(cat, a, c), over(cat, b, c))},
			{over(star, over(star, a)), over(star, a)},
			{over(star, a), over(alt, none(), over(api.NPlus, a))},
			{over(api.NPlus, a), over(cat, a, over(star, a))},
			{over(api.NPlus, a), over(cat, over(star, a), a)},
			{over(api.NOpt, a), over(alt, a, none())},
			{over(star, over(alt, a, b)), over(star, over(cat, over(star, a), over(star, b)))},
			{over(cat, a, over(star, over(cat, b, a))), over(cat, over(star, over(cat, a, b)), a)},
		}
		text := randomText(source, 7)
		for i, pair := range like {
			for at := range len(text) + 1 {
				if !slices.Equal(Ends(pair[0], text, at), Ends(pair[1], text, at)) || !slices.Equal(Begins(pair[0], text, at), Begins(pair[1], text, at)) {
					t.Fatalf("law %d: %s, %s at %d of %v", i, regex.Print(pair[0]), regex.Print(pair[1]), at, text)
				}
			}
		}
	}
}
