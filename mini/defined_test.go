package mini

import (
	"math/rand"
	"slices"
	"testing"

	"hornbook/api"
	"hornbook/match"
	"hornbook/regex"
	"hornbook/subset"
)

// pointsOf tells of each class a code point.
func pointsOf(t *testing.T, e api.Node, d *subset.DFA) []int32 {
	t.Helper()
	out := slices.Repeat([]int32{-1}, d.Classes())
	note := func(r int32) {
		if class := d.Class(r); class >= 0 {
			out[class] = r
		}
	}
	var near func(e api.Node)
	near = func(e api.Node) {
		for _, r := range e.Set {
			note(r.Lo - 1)
			note(r.Lo)
			note(r.Hi)
			note(r.Hi + 1)
		}
		for _, kid := range e.Kids {
			near(kid)
		}
	}
	note(0)
	near(e)
	if slices.Contains(out, -1) {
		t.Fatalf("%s: a class without a code point", regex.Print(e))
	}
	return out
}

// ways tells of each state a text that leads to it from state 0, nil of one to
// which none does.
func ways(states int, points []int32, next func(state, class int) int) [][]int32 {
	out := make([][]int32, states)
	out[0] = []int32{}
	for todo := []int{0}; len(todo) > 0; todo = todo[1:] {
		for class, r := range points {
			to := next(todo[0], class)
			if out[to] == nil {
				out[to] = append(slices.Clone(out[todo[0]]), r)
				todo = append(todo, to)
			}
		}
	}
	return out
}

// textsOf tells all texts of some code points up to a length.
func textsOf(points []int32, most int) [][]int32 {
	out := [][]int32{nil}
	for from, length := 0, 1; length <= most; length++ {
		to := len(out)
		for _, text := range out[from:to] {
			for _, r := range points {
				out = append(out, append(slices.Clone(text), r))
			}
		}
		from = to
	}
	return out
}

// likes tells of each state of d the least one that tells the same texts from
// there on, by the texts themselves: what the expression matches. (Of n states
// two that aren't alike are told apart by a text of at most n-2 code points.)
func likes(t *testing.T, e api.Node, d *subset.DFA) []int {
	t.Helper()
	points := pointsOf(t, e, d)
	texts := textsOf(points, max(d.Len()-2, 0))
	told := make([]string, d.Len())
	for state, way := range ways(d.Len(), points, d.Next) {
		for _, text := range texts {
			if match.All(e, slices.Concat(way, text)) {
				told[state] += "y"
			} else {
				told[state] += "n"
			}
		}
	}
	var out []int
	for state := range told {
		out = append(out, slices.Index(told, told[state]))
	}
	return out
}

// rounds tells the same by texts of no code point, of up to one, up to two ..,
// until none more is told apart.
func rounds(d *subset.DFA) []int {
	like := make([]int, d.Len())
	for state := range like {
		for like[state] < state && d.Accept(like[state]) != d.Accept(state) {
			like[state]++
		}
	}
	for {
		next := make([]int, d.Len())
		for state := range next {
			for next[state] < state && !goOnAlike(d, like, next[state], state) {
				next[state]++
			}
		}
		if slices.Equal(like, next) {
			return like
		}
		like = next
	}
}

func goOnAlike(d *subset.DFA, like []int, a, b int) bool {
	if like[a] != like[b] {
		return false
	}
	for class := range d.Classes() {
		if like[d.Next(a, class)] != like[d.Next(b, class)] {
			return false
		}
	}
	return true
}

// isNumbered holds all that m tells of states against the states of d and the
// least one to which each is like.
func isNumbered(t *testing.T, e api.Node, m *Min, d *subset.DFA, like []int) {
	t.Helper()
	var least []int
	of := make([]int, d.Len())
	for state, first := range like {
		if first == state {
			of[state] = len(least)
			least = append(least, state)
		} else {
			of[state] = of[first]
		}
		if got := m.Of(state); got != of[state] {
			t.Fatalf("P15.1: %s: Of(%d) = %d, want %d", regex.Print(e), state, got, of[state])
		}
	}
	if m.Len() != len(least) || m.Classes() != d.Classes() {
		t.Fatalf("P15.1: %s: %d states, %d classes, want %d, %d", regex.Print(e), m.Len(), m.Classes(), len(least), d.Classes())
	}
	empty := true
	var moves []api.Move
	for state, first := range least {
		if m.Accept(state) != d.Accept(first) {
			t.Fatalf("P15.1: %s: Accept(%d) = %v", regex.Print(e), state, m.Accept(state))
		}
		empty = empty && !d.Accept(first)
		for class := range d.Classes() {
			want := of[d.Next(first, class)]
			if got := m.Next(state, class); got != want {
				t.Fatalf("P15.1: %s: Next(%d, %d) = %d, want %d", regex.Print(e), state, class, got, want)
			}
			moves = append(moves, api.Move{From: state, Class: class, To: want})
		}
		for _, r := range []int32{-1, 0, '`', 'a', 'b', 'c', 'd', 'e', 'f', 0xD800, 0x10FFFF, 0x110000} {
			want := -1
			if class := d.Class(r); class >= 0 {
				want = of[d.Next(first, class)]
			}
			if got := m.Step(state, r); got != want {
				t.Fatalf("P15.1: %s: Step(%d, %d) = %d, want %d", regex.Print(e), state, r, got, want)
			}
		}
	}
	if m.Empty() != empty || !slices.Equal(m.Moves(), moves) {
		t.Fatalf("P15.1: %s: Empty() = %v, %v", regex.Print(e), m.Empty(), m.Moves())
	}
}

// isDefined holds the minimal automaton of e against its definition.
func isDefined(t *testing.T, e api.Node) (*Min, *subset.DFA) {
	t.Helper()
	m, d := made(t, e)
	isNumbered(t, e, m, d, rounds(d))
	return m, d
}

// pair: two states; the pair and the class from which they were met.
type pair struct{ a, b, from, class int }

// telling tells a text that tells two states apart, false where none does.
func telling(m *Min, points []int32, a, b int) ([]int32, bool) {
	met := map[[2]int]bool{{a, b}: true}
	todo := []pair{{a, b, -1, -1}}
	for at := 0; at < len(todo); at++ {
		if now := todo[at]; m.Accept(now.a) != m.Accept(now.b) {
			var out []int32
			for ; now.from >= 0; now = todo[now.from] {
				out = append(out, points[now.class])
			}
			slices.Reverse(out)
			return out, true
		}
		for class := range m.Classes() {
			a, b := m.Next(todo[at].a, class), m.Next(todo[at].b, class)
			if !met[[2]int{a, b}] {
				met[[2]int{a, b}] = true
				todo = append(todo, pair{a, b, at, class})
			}
		}
	}
	return nil, false
}

// areTold holds P15.2: some text leads to each state, and behind those of each
// two another one is a text of e or not: so an automaton that tells the same
// texts has a state for each of them.
func areTold(t *testing.T, e api.Node, m *Min) {
	t.Helper()
	d, _ := statesOf(t, e)
	points := pointsOf(t, e, d)
	way := ways(m.Len(), points, m.Next)
	for b := range m.Len() {
		if way[b] == nil {
			t.Fatalf("P15.2: %s: no text leads to %d", regex.Print(e), b)
		}
		for a := range b {
			text, ok := telling(m, points, a, b)
			if !ok || match.All(e, slices.Concat(way[a], text)) == match.All(e, slices.Concat(way[b], text)) {
				t.Fatalf("P15.2: %s: %d and %d are alike", regex.Print(e), a, b)
			}
		}
	}
}

// trees tells all expressions of up to so many nodes.
func trees(most int) []api.Node {
	all := [][]api.Node{nil, {one('a'), ranges('a', 'b'), ranges(), ranges(0, 'a', 'c', api.MaxRune), none()}}
	for size := 2; size <= most; size++ {
		var out []api.Node
		for _, kid := range all[size-1] {
			for _, kind := range []int{api.NStar, api.NPlus, api.NOpt} {
				out = append(out, over(kind, kid))
			}
		}
		for left := 1; left <= size-2; left++ {
			for _, a := range all[left] {
				for _, b := range all[size-1-left] {
					out = append(out, over(api.NCat, a, b), over(api.NAlt, a, b))
				}
			}
		}
		all = append(all, out)
	}
	return slices.Concat(all...)
}

// P15.1, P15.2: all expressions of up to five nodes: which states are alike, by
// the texts that they tell; all short texts.
func TestSmallExpressionsAreDefined(t *testing.T) {
	short := textsOf([]int32{'a', 'b', 'c'}, 3)
	for _, e := range trees(5) {
		m, d := made(t, e)
		like := likes(t, e, d)
		if !slices.Equal(like, rounds(d)) {
			t.Fatalf("P15.1: %s: %v, %v", regex.Print(e), like, rounds(d))
		}
		isNumbered(t, e, m, d, like)
		areTold(t, e, m)
		for _, text := range short {
			if got := m.All(text); got != d.All(text) || got != match.All(e, text) {
				t.Fatalf("P15.1: %s, %q: %v", regex.Print(e), string(text), got)
			}
		}
	}
}

// randomTree tells an expression of about so many nodes.
func randomTree(source *rand.Rand, size int) api.Node {
	if size <= 1 {
		lo := int32('a' + source.Intn(3))
		leaves := []api.Node{none(), ranges(), ranges('a', 'a', 'c', 'c'), ranges(0, 0x10FFFF), ranges(0, 'a'), ranges('c', 0xD800, 0x10FFFF, 0x10FFFF)}
		if pick := source.Intn(18); pick < len(leaves) {
			return leaves[pick]
		}
		return ranges(lo, lo+int32(source.Intn(2)))
	}
	if source.Intn(5) < 2 || size == 2 {
		return over([]int{api.NStar, api.NPlus, api.NOpt}[source.Intn(3)], randomTree(source, size-1))
	}
	left := 1 + source.Intn(size-2)
	kind := []int{api.NCat, api.NCat, api.NAlt}[source.Intn(3)]
	return over(kind, randomTree(source, left), randomTree(source, size-1-left))
}

func randomText(source *rand.Rand, most int) []int32 {
	var out []int32
	for range source.Intn(most + 1) {
		out = append(out, int32('a'+source.Intn(4)))
	}
	if source.Intn(5) == 0 && len(out) > 0 {
		out[source.Intn(len(out))] = []int32{-1, 0x110000, 0, 0x10FFFF, 0xD800}[source.Intn(5)]
	}
	return out
}

// P15.1, P15.2: greater ones, and longer texts.
func TestGreaterExpressionsAreDefined(t *testing.T) {
	source := rand.New(rand.NewSource(15))
	matched, fewer, same := 0, 0, 0
	for range 2500 {
		e := randomTree(source, 1+source.Intn(80))
		if regex.Places(e) > api.MaxPlaces {
			continue
		}
		if _, ok := statesOf(t, e); !ok {
			continue
		}
		m, d := isDefined(t, e)
		if m.Len() <= 12 {
			areTold(t, e, m)
		}
		if m.Len() < d.Len() {
			fewer++
		} else {
			same++
		}
		for range 8 {
			text := randomText(source, 10)
			want := match.All(e, text)
			if got := m.All(text); got != want || d.All(text) != want {
				t.Fatalf("P15.1: %s, %v: %v", regex.Print(e), text, got)
			}
			state := 0
			for _, r := range text {
				state = m.Step(state, r)
			}
			if m.Accept(state) != want {
				t.Fatalf("P15.1: %s, %v: Accept(%d) = %v", regex.Print(e), text, state, !want)
			}
			if want {
				matched++
			}
		}
	}
	if matched < 1500 || fewer < 500 || same < 100 {
		t.Errorf("%d matched, %d of fewer states, %d of as many", matched, fewer, same)
	}
}

// P15.1, P15.2: near the bound of the states, at random.
func TestManyStatesAreDefined(t *testing.T) {
	source := rand.New(rand.NewSource(151))
	many := 0
	for range 120 {
		e := over(api.NCat, fromBehind('a', 'b', 4+source.Intn(3), api.NStar), randomTree(source, 1+source.Intn(12)))
		if source.Intn(2) == 0 {
			e = over(api.NAlt, randomTree(source, 1+source.Intn(12)), e)
		}
		if _, ok := statesOf(t, e); !ok {
			continue
		}
		if _, d := isDefined(t, e); d.Len() > 50 {
			many++
		}
	}
	if many < 20 {
		t.Errorf("%d of many states", many)
	}
}
