package places

import (
	"fmt"
	"math/rand"
	"slices"
	"testing"

	"hornbook/api"
	"hornbook/match"
	"hornbook/regex"
)

// linear tells e with each set replaced by its place's number alone: each place
// stands for some code point by itself.
func linear(e api.Node) api.Node {
	count := int32(0)
	var copied func(e api.Node) api.Node
	copied = func(e api.Node) api.Node {
		if e.Kind == api.NSet {
			count++
			return one(count - 1)
		}
		out := api.Node{Kind: e.Kind}
		for _, kid := range e.Kids {
			out.Kids = append(out.Kids, copied(kid))
		}
		return out
	}
	return copied(e)
}

// words tells all texts of places, up to a length, that a linear expression
// matches.
func words(e api.Node, most int) map[string]bool {
	out := map[string]bool{}
	add := func(more map[string]bool) bool {
		before := len(out)
		for x := range more {
			out[x] = true
		}
		return len(out) > before
	}
	join := func(a, b map[string]bool) map[string]bool {
		both := map[string]bool{}
		for x := range a {
			for y := range b {
				if len(x)+len(y) <= most {
					both[x+y] = true
				}
			}
		}
		return both
	}
	var kids []map[string]bool
	for _, kid := range e.Kids {
		kids = append(kids, words(kid, most))
	}
	switch e.Kind {
	case api.NSet:
		out[string([]byte{byte(e.Set[0].Lo)})] = true
	case api.NNone:
		out[""] = true
	case api.NCat:
		add(join(kids[0], kids[1]))
	case api.NAlt:
		add(kids[0])
		add(kids[1])
	default:
		if e.Kind != api.NPlus {
			out[""] = true
		}
		add(kids[0])
		for e.Kind != api.NOpt && add(join(out, kids[0])) {
		}
	}
	return out
}

// told: what New tells of an expression but for its sets.
type told struct {
	null        bool
	first, last uint64
	follow      []uint64
}

func toldOf(a *Auto) told {
	out := told{null: a.Null(), first: a.First(), last: a.Last()}
	for i := range a.Len() {
		out.follow = append(out.follow, a.Follow(i))
	}
	return out
}

func (a told) isSame(b told) bool {
	return a.null == b.null && a.first == b.first && a.last == b.last && slices.Equal(a.follow, b.follow)
}

// byWords: P13.1 from the texts of places that there are. (Where there is a
// text with a place at its beginning, at its end or behind another one, there
// is one that has no place more than twice.)
func byWords(e api.Node) told {
	count := regex.Places(e)
	out := told{follow: make([]uint64, count)}
	for word := range words(linear(e), 2*count) {
		if word == "" {
			out.null = true
			continue
		}
		out.first |= 1 << word[0]
		out.last |= 1 << word[len(word)-1]
		for i := 1; i < len(word); i++ {
			out.follow[word[i-1]] |= 1 << word[i]
		}
	}
	return out
}

// rests tells what can be left of a linear expression behind a place: a list of
// expressions one of which matches what is still to come.
func rests(e api.Node, place int) []api.Node {
	ahead := func(some []api.Node, behind api.Node) []api.Node {
		var out []api.Node
		for _, x := range some {
			out = append(out, over(api.NCat, x, behind))
		}
		return out
	}
	switch e.Kind {
	case api.NSet:
		if e.Set[0].Lo == int32(place) {
			return []api.Node{none()}
		}
	case api.NCat:
		out := ahead(rests(e.Kids[0], place), e.Kids[1])
		if hasEmpty(e.Kids[0]) {
			out = append(out, rests(e.Kids[1], place)...)
		}
		return out
	case api.NAlt:
		return append(rests(e.Kids[0], place), rests(e.Kids[1], place)...)
	case api.NStar, api.NPlus:
		return ahead(rests(e.Kids[0], place), over(api.NStar, e.Kids[0]))
	case api.NOpt:
		return rests(e.Kids[0], place)
	}
	return nil
}

// hasEmpty tells whether an expression matches the empty text.
func hasEmpty(e api.Node) bool {
	switch e.Kind {
	case api.NCat:
		return hasEmpty(e.Kids[0]) && hasEmpty(e.Kids[1])
	case api.NAlt:
		return hasEmpty(e.Kids[0]) || hasEmpty(e.Kids[1])
	case api.NPlus:
		return hasEmpty(e.Kids[0])
	}
	return e.Kind != api.NSet
}

// byRests: P13.1 from what can be left behind each place, reached place by
// place. (Of a linear expression nothing is left that matches no text.)
func byRests(e api.Node) told {
	e = linear(e)
	count := regex.Places(e)
	out := told{null: hasEmpty(e), follow: make([]uint64, count)}
	type step struct {
		place int
		rest  api.Node
	}
	var todo []step
	seen := map[string]bool{}
	push := func(from api.Node) (reached uint64) {
		for i := range count {
			for _, rest := range rests(from, i) {
				reached |= 1 << i
				if key := fmt.Sprint(i, rest); !seen[key] {
					seen[key] = true
					todo = append(todo, step{i, rest})
				}
			}
		}
		return reached
	}
	out.first = push(e)
	for len(todo) > 0 {
		s := todo[0]
		todo = todo[1:]
		if hasEmpty(s.rest) {
			out.last |= 1 << s.place
		}
		out.follow[s.place] |= push(s.rest)
	}
	return out
}

// definedStep: P13.2, place by place.
func definedStep(e api.Node, all told, state uint64, r int32) uint64 {
	next, i := uint64(0), 0
	for _, node := range everyNode(&e) {
		if node.Kind != api.NSet {
			continue
		}
		isLed := state>>63 == 1 && all.first>>i&1 == 1
		for from, follow := range all.follow {
			isLed = isLed || state>>from&1 == 1 && follow>>i&1 == 1
		}
		isIn := slices.ContainsFunc(node.Set, func(some api.Range) bool { return some.Lo <= r && r <= some.Hi })
		if isLed && isIn {
			next |= 1 << i
		}
		i++
	}
	return next
}

func definedAccept(all told, state uint64) bool {
	for i := range all.follow {
		if state>>i&1 == 1 && all.last>>i&1 == 1 {
			return true
		}
	}
	return state>>63 == 1 && all.null
}

// isDefined holds all that New tells of e against the definition.
func isDefined(t *testing.T, e api.Node, want told) *Auto {
	t.Helper()
	a := made(t, e)
	if got := toldOf(a); !got.isSame(want) {
		t.Fatalf("P13.1: %s: %v, want %v", regex.Print(e), got, want)
	}
	i := 0
	for _, node := range everyNode(&e) {
		if node.Kind == api.NSet {
			if !slices.Equal(a.Set(i), node.Set) {
				t.Fatalf("P13.1: %s: Set(%d) = %v", regex.Print(e), i, a.Set(i))
			}
			i++
		}
	}
	if a.Len() != i {
		t.Fatalf("P13.1: %s: %d places", regex.Print(e), a.Len())
	}
	return a
}

// isStepped holds steps and states against the definition.
func isStepped(t *testing.T, e api.Node, a *Auto, all told, state uint64, r int32) {
	t.Helper()
	if got, want := a.Step(state, r), definedStep(e, all, state, r); got != want {
		t.Fatalf("P13.2: %s: Step(%x, %d) = %x, want %x", regex.Print(e), state, r, got, want)
	}
	if got, want := a.Accept(state), definedAccept(all, state); got != want {
		t.Fatalf("P13.2: %s: Accept(%x) = %v", regex.Print(e), state, got)
	}
}

// trees tells all expressions of a few nodes, by how many they have.
func trees(most int) [][]api.Node {
	leaves := []api.Node{one('a'), set('a', 'b'), set(), none()}
	out := [][]api.Node{nil, leaves}
	for size := 2; size <= most; size++ {
		var all []api.Node
		for _, kid := range out[size-1] {
			for _, kind := range []int{api.NStar, api.NPlus, api.NOpt} {
				all = append(all, over(kind, kid))
			}
		}
		for left := 1; left <= size-2; left++ {
			for _, a := range out[left] {
				for _, b := range out[size-1-left] {
					all = append(all, over(api.NCat, a, b), over(api.NAlt, a, b))
				}
			}
		}
		out = append(out, all)
	}
	return out
}

// texts tells all texts of a, b and c up to a length.
func texts(most int) [][]int32 {
	out := [][]int32{nil}
	for from, length := 0, 1; length <= most; length++ {
		to := len(out)
		for _, text := range out[from:to] {
			for _, point := range []int32{'a', 'b', 'c'} {
				out = append(out, append(slices.Clone(text), point))
			}
		}
		from = to
	}
	return out
}

// P13.1, P13.2, P13.3: all expressions of up to five nodes, so each kind within
// each other one, on each side, with kids that match the empty text and that
// don't; all their states, bits of no places too; all short texts.
func TestSmallExpressionsAreDefined(t *testing.T) {
	points := []int32{'a', 'b', 'c', -1}
	for size, all := range trees(5) {
		short := texts(max(2, 6-size))
		for _, e := range all {
			want := byWords(e)
			a := isDefined(t, e, want)
			if !want.isSame(byRests(e)) {
				t.Fatalf("two definitions of %s", regex.Print(e))
			}
			for state := range uint64(2 << a.Len()) {
				for _, r := range points {
					isStepped(t, e, a, want, state, r)
					isStepped(t, e, a, want, state|begin, r)
				}
				isStepped(t, e, a, want, state|1<<59|1<<60|1<<62, 'a')
			}
			for _, text := range short {
				if got := a.All(text); got != match.All(e, text) {
					t.Fatalf("P13.3: %s, %q: %v", regex.Print(e), string(text), got)
				}
			}
		}
	}
}

// randomTree tells an expression of about so many nodes.
func randomTree(source *rand.Rand, size int) api.Node {
	if size <= 1 {
		lo := int32('a' + source.Intn(3))
		leaves := []api.Node{none(), set(), set('a', 'a', 'c', 'c'), set(0, 0x10FFFF)}
		if pick := source.Intn(15); pick < len(leaves) {
			return leaves[pick]
		}
		return set(lo, lo+int32(source.Intn(2)))
	}
	if source.Intn(5) < 2 || size == 2 {
		return over([]int{api.NStar, api.NPlus, api.NOpt}[source.Intn(3)], randomTree(source, size-1))
	}
	left := 1 + source.Intn(size-2)
	kind := []int{api.NCat, api.NCat, api.NAlt}[source.Intn(3)]
	return over(kind, randomTree(source, left), randomTree(source, size-1-left))
}

func randomText(source *rand.Rand, most int) []int32 {
	var out []int32
	for range source.Intn(most + 1) {
		out = append(out, int32('a'+source.Intn(4)))
	}
	return out
}

// P13.1, P13.2, P13.3: greater ones, with states at random and longer texts.
func TestGreaterExpressionsAreDefined(t *testing.T) {
	source := rand.New(rand.NewSource(13))
	for range 600 {
		e := randomTree(source, 1+source.Intn(40))
		want := byRests(e)
		a := isDefined(t, e, want)
		for range 40 {
			state := source.Uint64()
			if source.Intn(2) == 0 { // few of them
				state &= source.Uint64() & source.Uint64()
			}
			isStepped(t, e, a, want, state, int32('a'-1+source.Intn(5)))
			isStepped(t, e, a, want, state&(begin|want.first|want.last), 'a')
		}
	}
}

// P13.1, P13.2, P13.3: what All tells is match's All, and where its steps lead;
// of great trees some have too many places.
func TestAllIsMatchAll(t *testing.T) {
	source := rand.New(rand.NewSource(133))
	matched, refused := 0, 0
	for range 6000 {
		e := randomTree(source, 1+source.Intn(220))
		a, err := New(e)
		if want := regex.Places(e) > 60; want != (err == api.ErrSize) || want != (a == nil) {
			t.Fatalf("P13.1: %d places: %v", regex.Places(e), err)
		}
		if err != api.OK {
			refused++
			continue
		}
		for range 8 {
			text := randomText(source, 10)
			if source.Intn(4) == 0 && len(text) > 0 {
				text[source.Intn(len(text))] = []int32{-1, 0x110000, 0, 0x10FFFF, 0xD800}[source.Intn(5)]
			}
			want := match.All(e, text)
			if got := a.All(text); got != want {
				t.Fatalf("P13.3: %s, %v: %v", regex.Print(e), text, got)
			}
			state := begin
			for _, r := range text {
				state = a.Step(state, r)
			}
			if a.Accept(state) != want {
				t.Fatalf("P13.2: %s, %v: Accept(%x) = %v", regex.Print(e), text, state, !want)
			}
			if want {
				matched++
			}
		}
	}
	if matched < 3000 || refused < 300 {
		t.Errorf("%d matched, %d refused", matched, refused)
	}
}
