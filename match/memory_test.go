package match

import (
	"fmt"
	"iter"
	"reflect"
	"slices"
	"strings"
	"sync"
	"testing"
	"unsafe"

	"hornbook/api"
)

// samples tells expressions of each form, without variables.
func samples(t *testing.T) []api.Node {
	var out []api.Node
	for _, s := range []string{"'a", "()", "[]", "['a'c]", "'a*", "'a'b", "'a|'b'c", "('a|'b)*'c?", "(('a+'b)?|())+", ".*"} {
		out = append(out, read(t, s))
	}
	return out
}

// everyNode tells all nodes of a tree, as they lie.
func everyNode(e *api.Node) []*api.Node {
	out := []*api.Node{e}
	for i := range e.Kids {
		out = append(out, everyNode(&e.Kids[i])...)
	}
	return out
}

// roomy tells a tree like e, each of its lists with something in its spare
// room.
func roomy(e api.Node) api.Node {
	kids := make([]api.Node, 0, len(e.Kids)+2)
	for _, kid := range e.Kids {
		kids = append(kids, roomy(kid))
	}
	set := append(slices.Clone(e.Set), api.Range{Lo: 66, Hi: 66}, api.Range{Lo: 55, Hi: 55})
	e.Kids = append(kids, variable("spare"), variable("room"))[:len(kids)]
	e.Set = set[:len(e.Set)]
	e.Name = strings.Clone(e.Name)
	return e
}

// whole tells all that a tree's lists have, what is in their spare room too.
func whole(e *api.Node) string {
	var b strings.Builder
	for _, node := range everyNode(e) {
		kids := node.Kids[:cap(node.Kids)]
		fmt.Fprint(&b, node.Kind, node.At, node.Name, len(node.Set), node.Set[:cap(node.Set)], len(node.Kids), kids[len(node.Kids):], ";")
	}
	return b.String()
}

// overwrite writes over all memory of a tree's lists, their spare room too.
func overwrite(e *api.Node) {
	for i := range e.Kids {
		overwrite(&e.Kids[i])
	}
	kids, ranges := e.Kids[:cap(e.Kids)], e.Set[:cap(e.Set)]
	for i := range kids {
		kids[i] = api.Node{Kind: 77, Name: "other"}
	}
	for i := range ranges {
		ranges[i] = api.Range{Lo: 7, Hi: 7}
	}
}

// room tells where the memory of a list begins and ends, its spare room too.
func room[T any](l []T) [2]uintptr {
	var item T
	from := uintptr(unsafe.Pointer(unsafe.SliceData(l)))
	return [2]uintptr{from, from + uintptr(cap(l))*unsafe.Sizeof(item)}
}

// rooms tells where the lists and names of a tree lie.
func rooms(e *api.Node) [][2]uintptr {
	var out [][2]uintptr
	for _, node := range everyNode(e) {
		name := uintptr(unsafe.Pointer(unsafe.StringData(node.Name)))
		out = append(out, room(node.Set), room(node.Kids), [2]uintptr{name, name + uintptr(len(node.Name))})
	}
	return out
}

// areApart holds that no two of all share memory.
func areApart(t *testing.T, all [][2]uintptr) {
	t.Helper()
	for i, a := range all {
		for _, b := range all[:i] {
			if a[0] < b[1] && b[0] < a[1] {
				t.Error("memory is shared")
			}
		}
	}
}

// Rule 3: what is handed in is neither changed nor kept.
func TestHandedInStays(t *testing.T) {
	for _, e := range samples(t) {
		e = roomy(e)
		text := points("abcab")
		before, beforeText := whole(&e), slices.Clone(text)
		ends, begins := Ends(e, text[:3], 0), Begins(e, text[:3], 3)
		All(e, text[:3])
		Null(e)
		if whole(&e) != before || !slices.Equal(text, beforeText) {
			t.Fatal("something was changed")
		}
		keptEnds, keptBegins := slices.Clone(ends), slices.Clone(begins)
		overwrite(&e)
		clear(text)
		if !slices.Equal(ends, keptEnds) || !slices.Equal(begins, keptBegins) {
			t.Fatal("something was kept")
		}
	}
}

// Rule 3: Fill changes neither what it fills nor what it puts in, keeps nothing
// of it, and what it puts in twice lies there twice.
func TestFillMemory(t *testing.T) {
	values := append(samples(t), read(t, "$name"), read(t, "($name|'a)*$other"))
	for _, value := range values {
		for _, s := range []string{"$x", "$x*", "$x$x", "'a|$x|'b$x|['a'c]", "()", "($x'a)+|$x?"} {
			e := roomy(read(t, s))
			vars := []api.Var{{Name: "x", E: roomy(value)}, {Name: "x", E: one('q')}, {Name: "spare", E: one('s')}}
			before := []string{whole(&e), whole(&vars[0].E), fmt.Sprint(vars)}
			got, err := Fill(e, vars[:1])
			if err != api.OK {
				t.Fatal(err)
			}
			if after := []string{whole(&e), whole(&vars[0].E), fmt.Sprint(vars)}; !slices.Equal(after, before) {
				t.Errorf("Fill(%s) changed something", s)
			}
			own := rooms(&got)
			areApart(t, own)
			for _, other := range append(rooms(&e), rooms(&vars[0].E)...) {
				for _, a := range own {
					areApart(t, [][2]uintptr{a, other})
				}
			}
			want := plain(got)
			again, _ := Fill(e, vars[:1])
			overwrite(&again)
			overwrite(&e)
			overwrite(&vars[0].E)
			if !reflect.DeepEqual(plain(got), want) {
				t.Errorf("Fill(%s) shares memory", s)
			}
		}
	}
}

// Rule 3, rule 4: what is refused changes nothing either, as far as it went.
func TestRefusedChangesNothing(t *testing.T) {
	for _, s := range []string{"$x$no", "$no$x", "($x*|$no)?$x", "$w$w", "'a|$w$x$w"} {
		e := roomy(read(t, s))
		vars := []api.Var{{Name: "x", E: roomy(one('a'))}, {Name: "w", E: roomy(row(60))}}
		before := []string{whole(&e), whole(&vars[0].E), whole(&vars[1].E)}
		got, err := Fill(e, vars)
		if err == api.OK || !reflect.DeepEqual(plain(got), api.Node{}) {
			t.Errorf("Fill(%s) = %v, %v", s, got, err)
		}
		if after := []string{whole(&e), whole(&vars[0].E), whole(&vars[1].E)}; !slices.Equal(after, before) {
			t.Errorf("Fill(%s) changed something", s)
		}
	}
}

// Rule 3: an answer is the caller's, its spare room too.
func TestAnswersAreNewMemory(t *testing.T) {
	for _, e := range samples(t) {
		text := points("aabcabab")
		for at := range len(text) + 1 {
			ends, begins := Ends(e, text, at), Begins(e, text, at)
			keptEnds, keptBegins := slices.Clone(ends), slices.Clone(begins)
			for _, l := range [][]int{Ends(e, text, at), Begins(e, text, at)} {
				clear(l[:cap(l)])
			}
			if !slices.Equal(ends, keptEnds) || !slices.Equal(begins, keptBegins) || !slices.Equal(Ends(e, text, at), keptEnds) || !slices.Equal(Begins(e, text, at), keptBegins) {
				t.Fatal("answers share memory")
			}
		}
	}
}

// Rule 2: a nil list and an empty one are the same.
func TestNilIsEmpty(t *testing.T) {
	empty := api.Node{Kind: api.NNone, Set: []api.Range{}, Kids: []api.Node{}}
	if !Null(empty) || !All(empty, []int32{}) || !slices.Equal(Ends(empty, nil, 0), []int{0}) || !slices.Equal(Begins(empty, []int32{}, 0), []int{0}) {
		t.Error("an empty list for nil")
	}
	hollow := api.Node{Kind: api.NSet, Set: []api.Range{}, Kids: []api.Node{}}
	if All(hollow, points("a")) || Null(hollow) {
		t.Error("an empty set for nil")
	}
	isFilled(t, over(api.NStar, api.Node{Kind: api.NVar, Name: "x", Set: []api.Range{}, Kids: []api.Node{}}), []api.Var{{Name: "x", E: hollow}}, over(api.NStar, set()))
}

// tell is what the calls tell of some expressions.
func tell(t *testing.T) string {
	var b strings.Builder
	text := points("abcabaab")
	for _, e := range append(samples(t), api.Node{}, variable("x"), over(api.NStar)) {
		for at := -1; at <= len(text)+1; at++ {
			fmt.Fprintln(&b, Ends(e, text, at), Begins(e, text, at))
		}
		for _, vars := range [][]api.Var{nil, {{Name: "x", E: e}}, {{Name: "y", E: e}}} {
			filled, err := Fill(read(t, "($x 'q)* $x"), vars)
			fmt.Fprintln(&b, All(e, text), Null(e), filled, err)
		}
	}
	return b.String()
}

// Rule 6: an answer hangs on what is asked alone, not on what was asked before
// or is asked at once.
func TestAskedAtOnce(t *testing.T) {
	want := tell(t)
	answers := make([]string, 8)
	var wait sync.WaitGroup
	for i := range answers {
		wait.Go(func() { answers[i] = tell(t) })
	}
	wait.Wait()
	for _, got := range append(answers, tell(t)) {
		if got != want {
			t.Error("otherwise when asked at once")
		}
	}
}

// Rule 7: lengths can be left at any point, and gone through again, also while
// they are gone through.
func TestLengthsByIterator(t *testing.T) {
	text := points("abab")
	e := read(t, "('a'b?)*|'b'a'b")
	for _, c := range []struct {
		all  iter.Seq[int]
		want []int
	}{
		{lengths(e, forward, slices.All(text)), []int{0, 1, 2, 3, 4}},
		{lengths(e, backward, slices.Backward(text)), []int{0, 2, 3, 4}},
	} {
		for most := range len(c.want) + 1 {
			var got []int
			for length := range c.all {
				if len(got) == most {
					break
				}
				got = append(got, length)
				if inner := slices.Collect(c.all); !slices.Equal(inner, c.want) {
					t.Fatalf("%v within", inner)
				}
			}
			if !slices.Equal(got, c.want[:most]) {
				t.Errorf("%v, want %v", got, c.want[:most])
			}
		}
	}
}

// Rule 7: variables likewise; each of them once, none below another.
func TestVariablesByIterator(t *testing.T) {
	e := read(t, "($a|'x)* $b $c?")
	hidden := &e.Kids[1].Kids[0]
	hidden.Kids = []api.Node{variable("below")}
	all := variables(&e)
	for most := range 4 {
		var got []string
		for node := range all {
			if len(got) == most {
				break
			}
			got = append(got, node.Name)
			inner := 0
			for range all {
				inner++
			}
			if inner != 3 {
				t.Fatalf("%d within", inner)
			}
		}
		if len(got) != most || slices.Contains(got, "below") || len(slices.Compact(slices.Sorted(slices.Values(got)))) != most {
			t.Errorf("%v", got)
		}
	}
}
