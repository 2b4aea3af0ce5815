package merge

import (
	"fmt"
	"reflect"
	"slices"
	"strings"
	"sync"
	"testing"
	"unsafe"

	"hornbook/api"
)

// samples tells texts of sources, some of which fill one variable in often.
func samples() [][]string {
	return [][]string{
		{}, {""}, {"1: 'a ><\nskip \"Mr.\""},
		{"$a = ['a 'c 'e]\n$b = $a $a*\n9: $b >< $b\n1: $a <> $b\nskip \"long\"\nskip \"longer\"", "9: 'z <>", "drop 1\n2: {Digit}+ >< ('x | ())\nkeep \"long\"\nskip \"Dr.\""},
		{"3: 'a 'b 'c ><\n2: 'a ><\n1: >< 'a\nskip \"aa\"\nskip \"bb\"\nskip \"cc\"", "drop 2\nkeep \"bb\"", "3: >< 'd 'e\nskip \"bb\""},
	}
}

// known tells the sources of each of samples.
func known(t *testing.T) [][]api.Source {
	var out [][]api.Source
	for _, texts := range samples() {
		out = append(out, read(t, texts...))
	}
	return out
}

// room tells where the memory of a list begins and ends, its spare room too.
func room[T any](l []T) [2]uintptr {
	var item T
	from := uintptr(unsafe.Pointer(unsafe.SliceData(l)))
	return [2]uintptr{from, from + uintptr(cap(l))*unsafe.Sizeof(item)}
}

// lies tells where texts begin and end in memory.
func lies(texts ...string) [][2]uintptr {
	var out [][2]uintptr
	for _, s := range texts {
		from := uintptr(unsafe.Pointer(unsafe.StringData(s)))
		if len(s) > 1 { // the library has all texts of one byte once for all
			out = append(out, [2]uintptr{from, from + uintptr(len(s))})
		}
	}
	return out
}

// nodeRooms tells where the lists of expressions lie.
func nodeRooms(list ...api.Node) [][2]uintptr {
	var out [][2]uintptr
	for _, e := range list {
		out = append(append(out, room(e.Set), room(e.Kids)), nodeRooms(e.Kids...)...)
	}
	return out
}

// rooms tells where all of rules and words lies.
func rooms(rules []api.Rule, words []string) [][2]uintptr {
	out := append(lies(words...), room(rules), room(words))
	for _, r := range rules {
		out = append(out, nodeRooms(r.Left, r.Right)...)
	}
	return out
}

// areApart holds that no two of all share memory.
func areApart(t *testing.T, all ...[2]uintptr) {
	t.Helper()
	for i, a := range all {
		for _, b := range all[:i] {
			if a[0] < b[1] && b[0] < a[1] {
				t.Error("rule 3: memory is shared")
			}
		}
	}
}

// fill writes over all memory of a list, its spare room too.
func fill[T any](list []T, with T) {
	list = list[:cap(list)]
	for i := range list {
		list[i] = with
	}
}

func overwriteNode(e api.Node) {
	for _, kid := range e.Kids {
		overwriteNode(kid)
	}
	fill(e.Kids, api.Node{Kind: 77, Name: "other"})
	fill(e.Set, api.Range{Lo: 7, Hi: 7})
}

// overwrite writes over all memory of rules and words.
func overwrite(rules []api.Rule, words []string) {
	for _, r := range rules {
		overwriteNode(r.Left)
		overwriteNode(r.Right)
	}
	fill(rules, api.Rule{N: -7})
	fill(words, "other")
}

// Rule 3: no two lists of one answer share memory, nor two answers, nor an
// answer and the sources; an answer that is changed by the caller, or sources
// that are changed behind it, change no other answer.
func TestAnswersAreNewMemory(t *testing.T) {
	for i, l := range known(t) {
		first, err := Book(l)
		second, _ := Book(l)
		if err != api.OK {
			t.Fatal(err)
		}
		all := slices.Concat(rooms(first.Rules, first.Skip), rooms(second.Rules, second.Skip), lies(Print(first), Print(first)))
		for _, x := range l {
			for _, had := range slices.Concat(rooms(x.Rules, x.Skip), lies(x.Keep...)) {
				areApart(t, append(slices.Clone(all), had)...)
			}
		}
		areApart(t, all...)
		want := plain(first, 1)
		overwrite(second.Rules, second.Skip)
		if third, _ := Book(l); !reflect.DeepEqual(plain(first, 1), want) || !reflect.DeepEqual(plain(third, 1), want) {
			t.Errorf("P12.1: row %d: changed by what was handed out", i)
		}
		for _, x := range l {
			overwrite(x.Rules, x.Skip)
			fill(x.Drop, -7)
			fill(x.Keep, "other")
		}
		fill(l, api.Source{Parent: "other"})
		if !reflect.DeepEqual(plain(first, 1), want) || !Is(first) {
			t.Errorf("P12.1: row %d: the sources were kept", i)
		}
	}
}

// Rule 3: a rule that is the same memory twice in the sources isn't in the book.
func TestSharedSidesAreApart(t *testing.T) {
	side := over(api.NCat, over(api.NStar, one(3, 'a')), one(9, 'b'))
	l := []api.Source{{Rules: []api.Rule{{N: 2, Left: side, Right: side}, {N: 1, Left: side, Right: side.Kids[0]}}}, {Rules: []api.Rule{{N: 3, Left: side, Right: side}}}}
	b, err := Book(l)
	if err != api.OK || len(b.Rules) != 3 {
		t.Fatalf("P12.1: %v, %v", b, err)
	}
	areApart(t, rooms(b.Rules, b.Skip)...)
}

// Rule 3: words aren't kept: a book stays what it is if the memory of a word is
// another's later.
func TestWordsAreNotKept(t *testing.T) {
	memory := []byte("MrDr")
	text := unsafe.String(&memory[0], len(memory))
	b, err := Book([]api.Source{{Skip: []string{text[:2], text[2:]}}})
	copy(memory, "abcd")
	if err != api.OK || !slices.Equal(b.Skip, []string{"Dr", "Mr"}) {
		t.Errorf("P12.1: %q, %v", b.Skip, err)
	}
}

// roomy tells a list like this one, with something in its spare room.
func roomy[T any](list []T, spare T) []T {
	out := append(slices.Clone(list), spare, spare)
	fill(out[len(list):], spare)
	return out[:len(list)]
}

func roomyNode(e api.Node) api.Node {
	var kids []api.Node
	for _, kid := range e.Kids {
		kids = append(kids, roomyNode(kid))
	}
	e.Kids, e.Set = roomy(kids, api.Node{Kind: 66}), roomy(e.Set, api.Range{Lo: 66, Hi: 66})
	return e
}

func roomyRules(rules []api.Rule) []api.Rule {
	var out []api.Rule
	for _, r := range rules {
		out = append(out, api.Rule{N: r.N, Break: r.Break, Left: roomyNode(r.Left), Right: roomyNode(r.Right)})
	}
	return roomy(out, api.Rule{N: 66})
}

// wholeNode tells all that an expression's lists have, what is in their spare
// room too.
func wholeNode(e api.Node) string {
	out := fmt.Sprint(e.Kind, e.At, e.Name, len(e.Set), e.Set[:cap(e.Set)], len(e.Kids), "(")
	for _, kid := range e.Kids[:cap(e.Kids)] {
		out += wholeNode(kid)
	}
	return out + ")"
}

// whole tells likewise all that rules and words have.
func whole(rules []api.Rule, words ...[]string) string {
	out := fmt.Sprint(len(rules))
	for _, r := range rules[:cap(rules)] {
		out += fmt.Sprint(r.N, r.Break, wholeNode(r.Left), wholeNode(r.Right))
	}
	for _, l := range words {
		out += fmt.Sprint(len(l), l[:cap(l)])
	}
	return out
}

// Rule 3: nothing of what is handed in is changed, its spare room neither.
func TestArgumentsAreNotChanged(t *testing.T) {
	for i, l := range known(t) {
		for k, x := range l {
			l[k] = api.Source{Rules: roomyRules(x.Rules), Drop: roomy(x.Drop, 66), Skip: roomy(x.Skip, "spare"), Keep: roomy(x.Keep, "spare")}
		}
		l = roomy(l, api.Source{Parent: "spare"})
		tell := func() string {
			out := fmt.Sprint(len(l))
			for _, x := range l[:cap(l)] {
				out += fmt.Sprint(x.Parent, len(x.Drop), x.Drop[:cap(x.Drop)]) + whole(x.Rules, x.Skip, x.Keep)
			}
			return out
		}
		before := tell()
		b, err := Book(l)
		if err != api.OK || tell() != before {
			t.Errorf("P12.1: row %d: sources are changed: %v", i, err)
		}
		b = api.Book{Rules: roomyRules(b.Rules), Skip: roomy(b.Skip, "spare")}
		turned := api.Book{Rules: roomyRules(b.Rules), Skip: roomy(b.Skip, "spare")}
		slices.Reverse(turned.Rules)
		slices.Reverse(turned.Skip)
		for _, b := range []api.Book{b, turned} {
			had := whole(b.Rules, b.Skip)
			Is(b)
			Print(b)
			Same(b, turned)
			Same(turned, b)
			if whole(b.Rules, b.Skip) != had {
				t.Errorf("P12.2: row %d: a book is changed", i)
			}
		}
	}
}

// Rule 6: who asks at once is told the same, whatever the sources' memory.
func TestAskedAtOnce(t *testing.T) {
	all := known(t)
	tell := func() string {
		out := ""
		for _, l := range all {
			b, err := Book(l)
			out += fmt.Sprint(b, err, Is(b), Print(b), Same(b, b), "\n")
		}
		return out
	}
	want := tell()
	answers := make([]string, 8)
	var wait sync.WaitGroup
	for i := range answers {
		wait.Go(func() { answers[i] = tell() })
	}
	wait.Wait()
	for _, got := range answers {
		if got != want {
			t.Errorf("rule 6: %q, want %q", got, want)
		}
	}
}

// Rule 7: the sorted map that rules and words lie in is gone through by rising
// keys, can be left anywhere, and gone through again within.
func TestSorted(t *testing.T) {
	var s sorted[int, string]
	for range s.rising() {
		t.Error("one that was told nothing has something")
	}
	s.drop(3)
	for _, n := range []int{5, -1, 9, 3, 5, 7} {
		s.put(n, fmt.Sprint(n, s.size()))
	}
	s.drop(9)
	s.drop(8)
	want := "-1:-1 1 3:3 3 5:5 4 7:7 4 "
	for left := range 5 {
		outer := ""
		for n, v := range s.rising() {
			if left == 0 {
				break
			}
			left--
			outer += fmt.Sprint(n, ":", v, " ")
			inner := ""
			for n, v := range s.rising() {
				inner += fmt.Sprint(n, ":", v, " ")
			}
			if inner != want {
				t.Errorf("%q, want %q", inner, want)
			}
		}
		if !strings.HasPrefix(want, outer) {
			t.Errorf("%q, want %q", outer, want)
		}
	}
	if s.size() != 4 {
		t.Errorf("%d", s.size())
	}
}
