package places

import (
	"fmt"
	"slices"
	"strings"
	"sync"
	"testing"
	"unsafe"

	"hornbook/api"
)

// samples tells expressions of each form, without variables.
func samples(t *testing.T) []api.Node {
	var out []api.Node
	for _, s := range []string{"'a", "()", "[]", "['a 'c]", "'a*", "'a 'b", "'a | 'b 'c", "('a | 'b)* 'c?", "(('a+ 'b)? | ())+", ".* ['a 'c 'e] [^'x]"} {
		out = append(out, read(t, s))
	}
	return out
}

// everyNode tells all nodes of a tree, as they lie, each ahead of its kids,
// from the left on.
func everyNode(e *api.Node) []*api.Node {
	out := []*api.Node{e}
	for i := range e.Kids {
		out = append(out, everyNode(&e.Kids[i])...)
	}
	return out
}

// roomy tells a tree like e, each of its lists with something in its spare
// room.
func roomy(e api.Node) api.Node {
	kids := make([]api.Node, 0, len(e.Kids)+2)
	for _, kid := range e.Kids {
		kids = append(kids, roomy(kid))
	}
	set := append(slices.Clone(e.Set), api.Range{Lo: 66, Hi: 66}, api.Range{Lo: 55, Hi: 55})
	e.Kids = append(kids, variable("spare"), one('r'))[:len(kids)]
	e.Set = set[:len(e.Set)]
	return e
}

// whole tells all that a tree's lists have, what is in their spare room too.
func whole(e *api.Node) string {
	var b strings.Builder
	for _, node := range everyNode(e) {
		kids := node.Kids[:cap(node.Kids)]
		fmt.Fprint(&b, node.Kind, node.At, node.Name, len(node.Set), node.Set[:cap(node.Set)], len(node.Kids), kids[len(node.Kids):], ";")
	}
	return b.String()
}

// overwrite writes over all memory of a tree's lists, their spare room too.
func overwrite(e *api.Node) {
	for i := range e.Kids {
		overwrite(&e.Kids[i])
	}
	kids, ranges := e.Kids[:cap(e.Kids)], e.Set[:cap(e.Set)]
	for i := range kids {
		kids[i] = api.Node{Kind: 77, Name: "other"}
	}
	for i := range ranges {
		ranges[i] = api.Range{Lo: 7, Hi: 7}
	}
	e.Kind = 77
}

// tell is all that an automaton tells, of some states and texts.
func tell(a *Auto) string {
	var b strings.Builder
	fmt.Fprintln(&b, toldOf(a))
	for i := -1; i <= a.Len(); i++ {
		fmt.Fprintln(&b, a.Set(i), a.Follow(i))
	}
	for _, state := range []uint64{0, begin, 1, 2, 3, 7, begin | 1, begin | 6, ^begin, ^uint64(0)} {
		for _, r := range []int32{-1, 0, 7, 'a', 'b', 'c', 'e', 'x', 0x110000} {
			fmt.Fprintln(&b, a.Step(state, r), a.Accept(state))
		}
	}
	for _, text := range texts(3) {
		fmt.Fprint(&b, a.All(text))
	}
	return b.String()
}

// room tells where the memory of a list begins and ends, its spare room too.
func room(l []api.Range) [2]uintptr {
	from := uintptr(unsafe.Pointer(unsafe.SliceData(l)))
	return [2]uintptr{from, from + uintptr(cap(l))*unsafe.Sizeof(api.Range{})}
}

// Rule 3: what New is handed is neither changed nor kept; nor is a text.
func TestHandedInStays(t *testing.T) {
	for _, sample := range samples(t) {
		e := roomy(sample)
		before := whole(&e)
		a := made(t, e)
		want := tell(a)
		if whole(&e) != before {
			t.Error("rule 3: New changed what it was handed")
		}
		overwrite(&e)
		if tell(a) != want || tell(made(t, sample)) != want {
			t.Error("rule 3: New kept what it was handed")
		}
		text := []int32("abcab")
		a.All(text[:3])
		if !slices.Equal(text, []int32("abcab")) {
			t.Error("rule 3: All changed a text")
		}
	}
	tooMany := roomy(over(api.NCat, row(60), over(api.NStar, one('a'))))
	for _, e := range []api.Node{tooMany, roomy(over(api.NCat, variable("x"), one('a'))), roomy(over(77, one('a')))} {
		before := whole(&e)
		if a, err := New(e); err == api.OK || a != nil || whole(&e) != before {
			t.Error("rule 4: what is refused was changed")
		}
	}
}

// Rule 3: what Set hands out is new memory each time, its spare room too.
func TestSetsAreNewMemory(t *testing.T) {
	shared := set('a', 'c', 'x', 'x', 'z', 'z')
	list := append(samples(t), over(api.NCat, shared, over(api.NAlt, shared, shared)))
	for _, e := range list {
		a, twin := made(t, e), made(t, e)
		want := tell(a)
		var all [][2]uintptr
		for _, node := range everyNode(&e) {
			all = append(all, room(node.Set))
		}
		for i := range a.Len() {
			for _, l := range [][]api.Range{a.Set(i), a.Set(i), twin.Set(i)} {
				own := room(l)
				for _, other := range all {
					if own[0] < other[1] && other[0] < own[1] {
						t.Errorf("rule 3: Set(%d) shares memory", i)
					}
				}
				all = append(all, own)
				l = l[:cap(l)]
				for k := range l {
					l[k] = api.Range{Lo: 7, Hi: 7}
				}
			}
		}
		if tell(a) != want || tell(twin) != want {
			t.Error("rule 3: changed by what was handed out")
		}
	}
}

// Rule 2: a nil list and an empty one are the same.
func TestNilIsEmpty(t *testing.T) {
	for _, pair := range [][2]api.Node{
		{none(), {Kind: api.NNone, Set: []api.Range{}, Kids: []api.Node{}}},
		{set(), {Kind: api.NSet, Set: []api.Range{}, Kids: []api.Node{}}},
		{over(api.NStar, one('a')), {Kind: api.NStar, Set: []api.Range{}, Kids: []api.Node{one('a')}}},
	} {
		if tell(made(t, pair[0])) != tell(made(t, pair[1])) {
			t.Errorf("rule 2: %v", pair)
		}
	}
}

// P13.1: places in the text (At) are no matter.
func TestAtIsNoMatter(t *testing.T) {
	for _, e := range samples(t) {
		moved := roomy(e)
		for i, node := range everyNode(&moved) {
			node.At = 1000 - 77*i
		}
		if tell(made(t, e)) != tell(made(t, moved)) {
			t.Error("P13.1: At")
		}
	}
}

// Rule 6: an answer hangs on the expression and what is asked alone, not on
// what was asked before or is asked at once, nor on other automata.
func TestAskedAtOnce(t *testing.T) {
	for _, e := range samples(t) {
		a := made(t, e)
		want := tell(a)
		answers := make([]string, 8)
		var wait sync.WaitGroup
		for i := range answers {
			wait.Go(func() {
				if i%2 == 0 {
					answers[i] = tell(a)
				} else if other, err := New(e); err == api.OK {
					answers[i] = tell(other)
				}
			})
		}
		wait.Wait()
		for _, got := range append(answers, tell(a)) {
			if got != want {
				t.Error("rule 6: otherwise when asked at once")
			}
		}
	}
}

// Rule 7: the places of a mask, rising, without the beginning; left at any
// point, gone through again, also while they are gone through.
func TestPlacesOfMask(t *testing.T) {
	for of, want := range map[mask][]int{
		0: nil, beginning: nil, 1: {0}, 1 << 59: {59}, 1 << 62: {62}, 1<<62 | beginning: {62}, 0b1011_0001: {0, 4, 5, 7}, beginning | 6: {1, 2},
	} {
		all := of.places()
		for most := range len(want) + 1 {
			var got []int
			for i := range all {
				if len(got) == most {
					break
				}
				got = append(got, i)
				if inner := slices.Collect(all); !slices.Equal(inner, want) {
					t.Fatalf("%v within", inner)
				}
			}
			if !slices.Equal(got, want[:most]) {
				t.Errorf("places of %x: %v, want %v", of, got, want[:most])
			}
		}
	}
	for i := range 63 {
		if got := slices.Collect(only(i).places()); !slices.Equal(got, []int{i}) {
			t.Errorf("only(%d) has %v", i, got)
		}
	}
	if got := slices.Collect((^mask(0)).places()); len(got) != 63 || !slices.IsSorted(got) {
		t.Errorf("all places: %v", got)
	}
}
