package regex

import (
	"fmt"
	"math/rand"
	"reflect"
	"slices"
	"strings"
	"sync"
	"testing"
	"unsafe"

	"hornbook/api"
	"hornbook/lex"
)

// samples tells texts of expressions, of each form.
func samples() []string {
	return []string{"'a", "$x", "()", ".", "{Digit}", "{Digit}{Digit}", "[]", "[^]", "[^{Digit}'a-'z]", "['a'c'e]['a'c'e]", "'a*+?", "$x | $x $x", "('a|'b)* ($y ['c-'d {Han}])? | () . {Any}", "'a'b'c'd'e'f'g|$h|$i|$j"}
}

// overwrite writes over all memory of a tree's lists, their spare room too.
func overwrite(e api.Node) {
	for _, kid := range e.Kids {
		overwrite(kid)
	}
	kids, ranges := e.Kids[:cap(e.Kids)], e.Set[:cap(e.Set)]
	for i := range kids {
		kids[i] = api.Node{Kind: 77, Name: "other"}
	}
	for i := range ranges {
		ranges[i] = api.Range{Lo: 7, Hi: 7}
	}
}

// Rule 3: an answer is the caller's, its spare room too.
func TestAnswersAreNewMemory(t *testing.T) {
	want := tell()
	for _, s := range samples() {
		list, _, _ := lex.Scan(s)
		first, _, _ := Read(list, 0)
		second, _, _ := Read(list, 0)
		third, _, _ := Parse(s)
		before := plain(second)
		overwrite(first)
		if !reflect.DeepEqual(plain(second), before) || !reflect.DeepEqual(plain(third), before) {
			t.Errorf("%s shares memory", s)
		}
		names := Names(second)
		kept := slices.Clone(names)
		again := Names(second)
		for i := range again[:cap(again)] {
			again[:cap(again)][i] = "other"
		}
		if !slices.Equal(names, kept) || !slices.Equal(Names(second), kept) {
			t.Errorf("the names of %s share memory", s)
		}
	}
	if tell() != want {
		t.Error("the calls tell otherwise now")
	}
}

// room tells where the memory of a list begins and ends, its spare room too.
func room[T any](l []T) [2]uintptr {
	var item T
	from := uintptr(unsafe.Pointer(unsafe.SliceData(l)))
	return [2]uintptr{from, from + uintptr(cap(l))*unsafe.Sizeof(item)}
}

// Rule 3: no two lists of one answer share memory.
func TestListsOfOneAnswer(t *testing.T) {
	for _, s := range samples() {
		e, _, _ := Parse(s)
		var rooms [][2]uintptr
		for _, node := range everyNode(&e) {
			rooms = append(rooms, room(node.Set), room(node.Kids))
		}
		for i, a := range rooms {
			for _, b := range rooms[:i] {
				if a[0] < b[1] && b[0] < a[1] {
					t.Errorf("two lists of %s share memory", s)
				}
			}
		}
	}
}

// everyNode tells all nodes of a tree, as they lie.
func everyNode(e *api.Node) []*api.Node {
	out := []*api.Node{e}
	for i := range e.Kids {
		out = append(out, everyNode(&e.Kids[i])...)
	}
	return out
}

// Rule 3: texts in answers lie in memory of their own.
func TestTextsAreNewMemory(t *testing.T) {
	isWithin := func(part, whole string) bool {
		p, from := uintptr(unsafe.Pointer(unsafe.StringData(part))), uintptr(unsafe.Pointer(unsafe.StringData(whole)))
		return from <= p && p < from+uintptr(len(whole))
	}
	name := strings.Clone("name")
	e, _, err := Read([]api.Token{{Kind: api.TName, Text: name}}, 0)
	if err != api.OK || e.Name != name || isWithin(e.Name, name) {
		t.Errorf("%v, %v", e, err)
	}
	if names := Names(e); len(names) != 1 || isWithin(names[0], e.Name) {
		t.Errorf("%q", names)
	}
	s := strings.Clone("$name")
	if e, _, err := Parse(s); err != api.OK || isWithin(e.Name, s) {
		t.Errorf("%v, %v", e, err)
	}
	if isWithin(Print(e), e.Name) {
		t.Error("Print")
	}
}

// Rule 3: what is handed in is neither changed nor kept, nor its spare room.
func TestHandedInStays(t *testing.T) {
	for _, s := range samples() {
		list, _, _ := lex.Scan(s)
		spare := append(slices.Clone(list), api.Token{Kind: api.TChar, R: 'q'}, api.Token{Kind: 99})
		before := slices.Clone(spare)
		e, end, err := Read(spare[:len(list)], 0)
		if err != api.OK || end != len(list)-1 || !slices.Equal(spare, before) {
			t.Errorf("Read(%s) changed its list: %d, %v", s, end, err)
		}
		want := plain(e)
		for i := range spare {
			spare[i] = api.Token{Kind: api.TIdent, Text: "other"}
		}
		if !reflect.DeepEqual(plain(e), want) {
			t.Errorf("Read(%s) keeps its list", s)
		}
	}
	source := rand.New(rand.NewSource(9))
	for range 300 {
		e := randomTree(source, 1+source.Intn(12))
		for _, node := range everyNode(&e) {
			if len(node.Kids) > 0 { // with spare room behind them
				node.Kids = append(node.Kids, api.Node{Kind: 66})[:len(node.Kids)]
			}
		}
		before, beforeAll := plain(e), fmt.Sprint(spareRoom(e))
		names, printed := Names(e), Print(e)
		Is(e)
		Places(e)
		Same(e, e)
		if !reflect.DeepEqual(plain(e), before) || fmt.Sprint(spareRoom(e)) != beforeAll {
			t.Fatalf("%v was changed", before)
		}
		kept, keptText := slices.Clone(names), strings.Clone(printed)
		overwrite(e)
		if !slices.Equal(names, kept) || printed != keptText {
			t.Fatalf("%v was kept", before)
		}
	}
}

// spareRoom tells what lies behind the kids of a tree's nodes.
func spareRoom(e api.Node) []api.Node {
	var out []api.Node
	for _, node := range everyNode(&e) {
		out = append(out, node.Kids[len(node.Kids):cap(node.Kids)]...)
	}
	return out
}

// tell is what the calls tell of some texts and trees.
func tell() string {
	var b strings.Builder
	others := []string{"", "'a|", "{Foo}", "['b-'a]", strings.Repeat("(", 21), "@", "'a)"}
	for _, s := range append(samples(), others...) {
		e, at, err := Parse(s)
		fmt.Fprintln(&b, plain(e), at, err, Print(e), Is(e), Same(e, e), Places(e), Names(e))
	}
	return b.String()
}

// Rule 4: what is refused changes nothing. Rule 6: an answer does not hang on
// who asks, nor on where a text lies.
func TestAskedAtOnce(t *testing.T) {
	want := tell()
	answers := make([]string, 8)
	var wait sync.WaitGroup
	for i := range answers {
		wait.Go(func() { answers[i] = tell() })
	}
	wait.Wait()
	for _, got := range answers {
		if got != want {
			t.Error("otherwise when asked at once")
		}
	}
	whole := "('a|$b)*['c-'d]"
	for from := range whole {
		for to := from; to <= len(whole); to++ {
			e, at, err := Parse(whole[from:to])
			again, atAgain, errAgain := Parse(strings.Clone(whole[from:to]))
			if !reflect.DeepEqual(plain(e), plain(again)) || at != atAgain || err != errAgain {
				t.Errorf("Parse(%q) = %v, %d, %v", whole[from:to], e, at, err)
			}
		}
	}
}

// Rule 7: trees are gone through in one order, may be left at any node, gone
// through again, and within a going through.
func TestNodesByIterator(t *testing.T) {
	e, _, err := Parse("('a|$b)* 'c $d")
	if err != api.OK {
		t.Fatal(err)
	}
	var want []int
	for _, node := range everyNode(&e) {
		want = append(want, node.Kind)
	}
	all := nodes(e)
	for most := range len(want) + 1 {
		var got []int
		for node := range all {
			if len(got) == most {
				break
			}
			got = append(got, node.Kind)
			inner := 0
			for range all {
				inner++
			}
			if inner != len(want) {
				t.Fatalf("%d nodes within", inner)
			}
		}
		if !slices.Equal(got, want[:most]) {
			t.Errorf("%v, want %v", got, want[:most])
		}
	}
	a, b := over(api.NCat, one(0, 'a'), over(api.NStar, none(0))), over(api.NCat, over(api.NOpt, none(0)), none(0))
	var kinds [][2]int
	for x, y := range pairs(a, b) {
		kinds = append(kinds, [2]int{x.Kind, y.Kind})
	}
	if !slices.Equal(kinds, [][2]int{{api.NCat, api.NCat}, {api.NSet, api.NOpt}, {api.NStar, api.NNone}}) {
		t.Errorf("%v", kinds)
	}
}
