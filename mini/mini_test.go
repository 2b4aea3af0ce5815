package mini

import (
	"math"
	"math/rand"
	"slices"
	"strings"
	"testing"

	"hornbook/api"
	"hornbook/match"
	"hornbook/places"
	"hornbook/regex"
	"hornbook/subset"
)

// over tells an expression of a kind.
func over(kind int, kids ...api.Node) api.Node { return api.Node{Kind: kind, Kids: kids} }

// ranges tells an NSet of ranges, by their ends.
func ranges(ends ...int32) api.Node {
	e := api.Node{Kind: api.NSet}
	for i := 0; i < len(ends); i += 2 {
		e.Set = append(e.Set, api.Range{Lo: ends[i], Hi: ends[i+1]})
	}
	return e
}

func one(point int32) api.Node { return ranges(point, point) }

func none() api.Node { return api.Node{Kind: api.NNone} }

// row tells so many sets of one code point, one behind the other.
func row(n int, point int32) api.Node {
	e := one(point)
	for range n - 1 {
		e = over(api.NCat, e, one(point))
	}
	return e
}

// fromBehind tells what matches the texts of a to b that have a at a place
// counted from behind, where what is ahead of it is of a kind, NStar or NPlus.
func fromBehind(a, b int32, back, ahead int) api.Node {
	e := over(api.NCat, over(ahead, ranges(a, b)), one(a))
	for range back - 1 {
		e = over(api.NCat, e, ranges(a, b))
	}
	return e
}

// read tells the expression that s is.
func read(t *testing.T, s string) api.Node {
	t.Helper()
	e, at, err := regex.Parse(s)
	if err != api.OK {
		t.Fatalf("%s: %v at %d", s, err, at)
	}
	return e
}

// statesOf tells subset's states of e, false of what has too many of them.
func statesOf(t *testing.T, e api.Node) (*subset.DFA, bool) {
	t.Helper()
	a, err := places.New(e)
	if err != api.OK {
		t.Fatalf("places of %.99s: %v", regex.Print(e), err)
	}
	d, err := subset.New(a)
	if err != api.OK && err != api.ErrStates {
		t.Fatalf("subset of %.99s: %v", regex.Print(e), err)
	}
	return d, err == api.OK
}

// made tells the minimal automaton of e, and subset's states of it.
func made(t *testing.T, e api.Node) (*Min, *subset.DFA) {
	t.Helper()
	d, ok := statesOf(t, e)
	if !ok {
		t.Fatalf("%.99s: too many states", regex.Print(e))
	}
	m := New(d)
	if m == nil {
		t.Fatalf("P15.1: New of %.99s", regex.Print(e))
	}
	return m, d
}

// P15.1: states by hand: to which each of subset's belongs, which accept, and
// where each class leads.
func TestStatesByHand(t *testing.T) {
	for _, c := range []struct {
		e      string
		of     []int
		accept string // a letter a state
		next   [][]int
	}{
		{"('a | 'b)*", []int{0, 1, 0, 0}, "yn", [][]int{{1, 0, 0}, {1, 1, 1}}},
		{"('a | 'b)+", []int{0, 1, 2, 2}, "nny", [][]int{{1, 2, 2}, {1, 1, 1}, {1, 2, 2}}},
		{"'a", []int{0, 1, 2}, "nny", [][]int{{1, 2}, {1, 1}, {1, 1}}},
		{"()", []int{0, 1}, "yn", [][]int{{1}, {1}}},
		{"[]*", []int{0, 1}, "yn", [][]int{{1}, {1}}},
		{"[]", []int{0, 0}, "n", [][]int{{0}}},
		{"[]+", []int{0, 0}, "n", [][]int{{0}}},
		{"'a []", []int{0, 0, 0}, "n", [][]int{{0, 0}}},
		{"[] 'a", []int{0, 0}, "n", [][]int{{0, 0}}},
		{"'a 'b [] 'c", []int{0, 0, 0, 0}, "n", [][]int{{0, 0, 0, 0}}},
		{".", []int{0, 1, 2}, "nyn", [][]int{{1}, {2}, {2}}},
		{".*", []int{0, 0}, "y", [][]int{{0}}},
		{".+", []int{0, 1}, "ny", [][]int{{1}, {1}}},
		{".?", []int{0, 1, 2}, "yyn", [][]int{{1}, {2}, {2}}},
		{"('a | .)*", []int{0, 0, 0}, "y", [][]int{{0, 0}}},
		{"'a*", []int{0, 1, 0}, "yn", [][]int{{1, 0}, {1, 1}}},
		{"'\\u{0}*", []int{0, 0, 1}, "yn", [][]int{{0, 1}, {1, 1}}},
		{"'a?", []int{0, 1, 2}, "yny", [][]int{{1, 2}, {1, 1}, {1, 1}}},
		{"'a | 'b", []int{0, 1, 2, 2}, "nny", [][]int{{1, 2, 2}, {1, 1, 1}, {1, 1, 1}}},
		{"'b 'a | 'b 'b", []int{0, 1, 2, 3, 3}, "nnny", [][]int{{1, 1, 2}, {1, 1, 1}, {1, 3, 3}, {1, 1, 1}}},
		{"['a-'c] | ['b-'d]", []int{0, 1, 2, 2, 2}, "nny", [][]int{{1, 2, 2, 2}, {1, 1, 1, 1}, {1, 1, 1, 1}}},
		{"'a 'c | 'b 'c", []int{0, 1, 2, 2, 3, 3}, "nnny", [][]int{{1, 2, 2, 1}, {1, 1, 1, 1}, {1, 1, 1, 3}, {1, 1, 1, 1}}},
		{"'a ('b 'c)* | 'a", []int{0, 1, 2, 3, 2}, "nnyn", [][]int{{1, 2, 1, 1}, {1, 1, 1, 1}, {1, 1, 3, 1}, {1, 1, 1, 2}}},
		{". ['a 'c]? 'b*", []int{0, 1, 2, 3, 3}, "nyny", [][]int{{1, 1, 1}, {2, 3, 3}, {2, 2, 2}, {2, 2, 3}}},
		{".* 'a", []int{0, 0, 1}, "ny", [][]int{{0, 1}, {0, 1}}},
		{".* 'a .*", []int{0, 0, 1, 1, 1}, "ny", [][]int{{0, 1}, {1, 1}}},
	} {
		m, d := made(t, read(t, c.e))
		var of []int
		for state := range d.Len() {
			of = append(of, m.Of(state))
		}
		if !slices.Equal(of, c.of) || m.Len() != len(c.next) || m.Classes() != len(c.next[0]) {
			t.Errorf("P15.1: %s: %v: %d states, %d classes", c.e, of, m.Len(), m.Classes())
			continue
		}
		for state, next := range c.next {
			if m.Accept(state) != (c.accept[state] == 'y') {
				t.Errorf("P15.1: %s: Accept(%d) = %v", c.e, state, m.Accept(state))
			}
			for class, want := range next {
				if got := m.Next(state, class); got != want {
					t.Errorf("P15.1: %s: Next(%d, %d) = %d, want %d", c.e, state, class, got, want)
				}
			}
		}
	}
}

// P15.1: Step by code points of each class, and at the ends of ranges.
func TestStep(t *testing.T) {
	m, _ := made(t, over(api.NStar, over(api.NCat, ranges('a', 'f', 0x10FFFF, 0x10FFFF), ranges(0, 0, 'd', 'h'))))
	for _, c := range []struct {
		from int
		to   int
		list []int32
	}{
		{0, 1, []int32{0, 1, '`', 'g', 'h', 'i', 0xD800, 0xDFFF, 0x10FFFE}},
		{0, 2, []int32{'a', 'b', 'c', 'd', 'e', 'f', 0x10FFFF}},
		{1, 1, []int32{0, 'a', 'd', 'h', 0x10FFFF}},
		{2, 0, []int32{0, 'd', 'e', 'f', 'g', 'h'}},
		{2, 1, []int32{1, 'a', 'c', 'i', 0xD800, 0x10FFFE, 0x10FFFF}},
	} {
		for _, r := range c.list {
			if got := m.Step(c.from, r); got != c.to {
				t.Errorf("P15.1: Step(%d, %x) = %d, want %d", c.from, r, got, c.to)
			}
		}
	}
	if m.Len() != 3 || !m.Accept(0) || m.Accept(1) || m.Accept(2) {
		t.Errorf("P15.1: %d states", m.Len())
	}
}

// P15.1: states, classes and code points that there are not.
func TestOtherNumbers(t *testing.T) {
	for _, s := range []string{"()", "'a", "'a*", "('a | 'b)+ 'c", "[]", ".*", "['a 'c]? 'd", "'a | 'b | 'c"} {
		m, d := made(t, read(t, s))
		for _, state := range []int{-1, -2, math.MinInt, d.Len(), d.Len() + 1, 128, 1 << 31, 1 << 32, math.MaxInt} {
			if got := m.Of(state); got != -1 {
				t.Errorf("P15.1: %s: Of(%d) = %d", s, state, got)
			}
		}
		for _, state := range []int{-1, -2, math.MinInt, m.Len(), m.Len() + 1, d.Len(), 128, 1 << 31, 1 << 32, math.MaxInt} {
			if m.Accept(state) {
				t.Errorf("P15.1: %s: Accept(%d)", s, state)
			}
			for _, number := range []int{-1, 0, m.Classes() - 1, m.Classes(), math.MaxInt} {
				if m.Next(state, number) != -1 || m.Step(state, int32(number)) != -1 {
					t.Errorf("P15.1: %s: from %d by %d", s, state, number)
				}
			}
		}
		for state := range m.Len() {
			for _, class := range []int{-1, -2, math.MinInt, m.Classes(), m.Classes() + 1, 1 << 32, math.MaxInt} {
				if got := m.Next(state, class); got != -1 {
					t.Errorf("P15.1: %s: Next(%d, %d) = %d", s, state, class, got)
				}
			}
			for _, r := range []int32{-1, -2, 0x110000, 0x110001, math.MinInt32, math.MaxInt32} {
				if got := m.Step(state, r); got != -1 {
					t.Errorf("P15.1: %s: Step(%d, %d) = %d", s, state, r, got)
				}
			}
		}
	}
}

// P15.1: moves by hand: by state, then class.
func TestMovesByHand(t *testing.T) {
	for s, want := range map[string][]api.Move{
		"('a | 'b)*": {{From: 0, Class: 0, To: 1}, {From: 0, Class: 1, To: 0}, {From: 0, Class: 2, To: 0}, {From: 1, Class: 0, To: 1}, {From: 1, Class: 1, To: 1}, {From: 1, Class: 2, To: 1}},
		"'a":         {{From: 0, Class: 0, To: 1}, {From: 0, Class: 1, To: 2}, {From: 1, Class: 0, To: 1}, {From: 1, Class: 1, To: 1}, {From: 2, Class: 0, To: 1}, {From: 2, Class: 1, To: 1}},
		"()":         {{From: 0, Class: 0, To: 1}, {From: 1, Class: 0, To: 1}},
		"[]":         {{From: 0, Class: 0, To: 0}},
		"[] 'a":      {{From: 0, Class: 0, To: 0}, {From: 0, Class: 1, To: 0}},
		".* 'a":      {{From: 0, Class: 0, To: 0}, {From: 0, Class: 1, To: 1}, {From: 1, Class: 0, To: 0}, {From: 1, Class: 1, To: 1}},
	} {
		if m, _ := made(t, read(t, s)); !slices.Equal(m.Moves(), want) {
			t.Errorf("P15.1: %s: %v", s, m.Moves())
		}
	}
}

// P15.1: what tells no text at all, however it is written: one state.
func TestEmpty(t *testing.T) {
	for s, want := range map[string]bool{
		"[]": true, "[]+": true, "[] []": true, "'a []": true, "[] 'a": true, "'a* []": true, "[] | []": true, "('a [])+": true, "('a | 'b)* [] 'c?": true, "[]+ ()": true,
		"()": false, "[]*": false, "[]?": false, "([] | ())": false, "('a [])*": false, "('a [])?": false, "()*": false, "([] 'a)? ()": false,
		"'a": false, ".": false, ".*": false, ".+": false, "'a | []": false, "[]* 'a": false, "'\\u{10FFFF}": false, "'a 'b 'c 'd 'e 'f": false,
	} {
		m, _ := made(t, read(t, s))
		if m.Empty() != want || (m.Len() == 1 && !m.Accept(0)) != want {
			t.Errorf("P15.1: %s: Empty() = %v, of %d states", s, m.Empty(), m.Len())
		}
	}
}

// P15.1: something that is no code point, at each place of a text.
func TestAllOfNoText(t *testing.T) {
	for _, s := range []string{".*", "'a*", "'a 'b | ()", "('a | 'b .)*", "[]"} {
		m, d := made(t, read(t, s))
		for _, bad := range []int32{-1, 0x110000, math.MinInt32, math.MaxInt32} {
			for _, text := range [][]int32{{}, {'a'}, {'a', 'b'}, {'b', 'b'}, {'a', 'a', 'a', 'a'}} {
				for at := range len(text) + 1 {
					put := slices.Insert(slices.Clone(text), at, bad)
					if m.All(put) || d.All(put) {
						t.Errorf("P15.1: %s: %d at %d of %v", s, bad, at, text)
					}
					if at < len(text) && m.All(slices.Replace(slices.Clone(text), at, at+1, bad)) {
						t.Errorf("P15.1: %s: %d instead of %d of %v", s, bad, at, text)
					}
				}
			}
		}
	}
}

// P15.1: texts by hand; `-` is the empty one.
func TestAllByHand(t *testing.T) {
	for _, c := range []struct{ e, yes, no string }{
		{"'a", "a", "- b aa ab ba A"}, {"()", "-", "a aa"}, {"[]", "", "- a"}, {".", "a é \U0010FFFF", "- ab"}, {"[^'a]", "b \x00", "- a bb"},
		{"'a 'b", "ab", "- a b ba abb aab"}, {"'a []", "", "- a aa"}, {"'a | 'b 'c | 'd", "a bc d", "- b c ad ac abc"}, {"'a | []", "a", "- aa"},
		{"'a*", "- a aa aaaaaaa", "b ab ba aab"}, {"'a+", "a aa aaaaaaa", "- b ab ba"}, {"'a?", "- a", "aa b"}, {"[]*", "-", "a"}, {"[]+", "", "- a"}, {"[]?", "-", "a"},
		{"('a | 'b)*", "- a b ab ba bbb", "c ac ca abc"}, {"('a 'b)*", "- ab abab", "a b aba ba aab"}, {"('a | 'b)* 'c", "c ac bc abbac", "- a ab ca cc"},
		{"('a | 'a 'b) ('b 'c | 'c)", "abc ac abbc", "- ab abcc abbbc"}, {"('a 'a)* ('a 'a 'a)?", "- aa aaa aaaa aaaaa", "a aab"}, {"('a? 'b?)+", "- a b ab ba bb aabba", "c abc"},
		{".* 'a . .", "abc aaa abcabc bbabb", "- a ab bab abbb bbaa"},
	} {
		e := read(t, c.e)
		m, d := made(t, e)
		hold := func(list string, want bool) {
			for _, s := range strings.Split(list, " ") {
				text := []int32(strings.TrimPrefix(s, "-"))
				if list != "" && (m.All(text) != want || d.All(text) != want || match.All(e, text) != want) {
					t.Errorf("P15.1: %s, %q: %v", c.e, s, !want)
				}
			}
		}
		hold(c.yes, true)
		hold(c.no, false)
		if m.All(nil) != match.Null(e) || m.All([]int32{}) != match.Null(e) || m.Accept(0) != match.Null(e) {
			t.Errorf("P15.1: %s: the empty text", c.e)
		}
	}
}

// P15.1: long texts.
func TestLongTexts(t *testing.T) {
	long := slices.Repeat([]int32{'a', 'b'}, 100000)
	for s, want := range map[string]bool{"('a 'b)*": true, "('a 'b)* 'a": false, "('a | 'b)+": true, "'b .*": false, "'a .*": true, "'a 'b 'a": false, "()": false, "[]": false, "('a* 'b*)*": true} {
		if m, _ := made(t, read(t, s)); m.All(long) != want {
			t.Errorf("P15.1: %s: %v", s, !want)
		}
	}
}

// mostStates tells an expression of as many states as there may be: 64 and 32 by
// what was read last, the beginning, the one behind c, the empty one, and 29 by
// how many f were read.
func mostStates(ahead int) api.Node {
	last := over(api.NAlt, fromBehind('a', 'b', 6, api.NStar), over(api.NCat, one('c'), fromBehind('d', 'e', 5, ahead)))
	return over(api.NAlt, last, row(29, 'f'))
}

// P15.1, P15.2: automata of as many states as MaxStates: none alike, two alike
// (where nothing or e was read behind c), all alike.
func TestMostStates(t *testing.T) {
	every := over(api.NStar, ranges(0, api.MaxRune))
	for _, c := range []struct {
		e     api.Node
		size  int
		empty bool
	}{
		{mostStates(api.NPlus), 128, false},
		{mostStates(api.NStar), 127, false},
		{over(api.NCat, mostStates(api.NStar), ranges()), 1, true},
		{over(api.NAlt, mostStates(api.NPlus), every), 1, false},
		{over(api.NAlt, every, mostStates(api.NStar)), 1, false},
		{row(60, 'a'), 62, false},
		{over(api.NStar, row(60, 'a')), 61, false},
	} {
		m, d := isDefined(t, c.e)
		if m.Len() != c.size || m.Empty() != c.empty || d.Len() != api.MaxStates && d.Len() != 62 {
			t.Errorf("P15.1: %.99s: %d states, want %d; %d of subset", regex.Print(c.e), m.Len(), c.size, d.Len())
		}
		areTold(t, c.e, m)
	}
}

// P15.1: about as many classes as 60 sets of 200 ranges can cut; at the end some
// states are alike.
func TestManyClasses(t *testing.T) {
	source := rand.New(rand.NewSource(1515))
	e := none()
	for range api.MaxPlaces - 2 {
		var ends []int32
		for i := range int32(api.MaxRanges) {
			lo := i*5000 + source.Int31n(2400)
			ends = append(ends, lo, lo+1+source.Int31n(2400))
		}
		e = over(api.NCat, e, ranges(ends...))
	}
	every := over(api.NStar, ranges(0, api.MaxRune))
	m, d := made(t, over(api.NCat, over(api.NCat, e, every), every))
	if d.Classes() < 20000 || m.Classes() != d.Classes() || m.Len() != 60 || d.Len() != 61 {
		t.Fatalf("P15.1: %d classes, %d states", m.Classes(), m.Len())
	}
	for i, move := range m.Moves() {
		if move.From != i/d.Classes() || move.Class != i%d.Classes() || move.To != m.Next(move.From, move.Class) {
			t.Fatalf("P15.1: move %d: %v", i, move)
		}
	}
	for state := range d.Len() {
		for class := range d.Classes() {
			if got, want := m.Next(m.Of(state), class), m.Of(d.Next(state, class)); got != want {
				t.Fatalf("P15.1: from %d by %d: %d, want %d", state, class, got, want)
			}
		}
	}
}

// States that there are not are none, also where there are none at all.
func TestOfNoStates(t *testing.T) {
	for _, m := range []*Min{{}, New(&subset.DFA{})} {
		if m.Len() != 0 || m.Of(0) != -1 || m.Next(0, 0) != -1 || m.Step(0, 'a') != -1 || m.Accept(0) || m.All(nil) || len(m.Moves()) != 0 || !m.Empty() {
			t.Error("P40.6: of no states")
		}
	}
}
