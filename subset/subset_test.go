package subset

import (
	"math"
	"math/rand"
	"slices"
	"strings"
	"testing"

	"hornbook/api"
	"hornbook/match"
	"hornbook/places"
	"hornbook/regex"
)

// set tells an NSet of ranges, by their ends.
func set(ends ...int32) api.Node {
	e := api.Node{Kind: api.NSet}
	for i := 0; i < len(ends); i += 2 {
		e.Set = append(e.Set, api.Range{Lo: ends[i], Hi: ends[i+1]})
	}
	return e
}

func one(point int32) api.Node { return set(point, point) }

func none() api.Node { return api.Node{Kind: api.NNone} }

func over(kind int, kids ...api.Node) api.Node { return api.Node{Kind: kind, Kids: kids} }

// row tells so many sets of one code point, one behind the other.
func row(n int, point int32) api.Node {
	e := one(point)
	for range n - 1 {
		e = over(api.NCat, e, one(point))
	}
	return e
}

// fromBehind tells what matches the texts of a to b that have a at a place
// counted from behind: about 2 to the power of back states.
func fromBehind(a, b int32, back int) api.Node {
	e := over(api.NCat, over(api.NStar, set(a, b)), one(a))
	for range back - 1 {
		e = over(api.NCat, e, set(a, b))
	}
	return e
}

// read tells the expression that s is.
func read(t *testing.T, s string) api.Node {
	t.Helper()
	e, at, err := regex.Parse(s)
	if err != api.OK {
		t.Fatalf("%s: %v at %d", s, err, at)
	}
	return e
}

// placesOf tells the places of e, which has no more than there may be.
func placesOf(t *testing.T, e api.Node) *places.Auto {
	t.Helper()
	a, err := places.New(e)
	if err != api.OK {
		t.Fatalf("places of %.99s: %v", regex.Print(e), err)
	}
	return a
}

// made tells the states of e, which has no more than there may be.
func made(t *testing.T, e api.Node) *DFA {
	t.Helper()
	d, err := New(placesOf(t, e))
	if err != api.OK || d == nil {
		t.Fatalf("New(%.99s) = %v, %v", regex.Print(e), d, err)
	}
	return d
}

func isRefused(t *testing.T, e api.Node) {
	t.Helper()
	if d, err := New(placesOf(t, e)); err != api.ErrStates || d != nil {
		t.Errorf("P14.1: New(%.99s) = %v, %v", regex.Print(e), d, err)
	}
}

const begin = uint64(1) << 63

// P14.1, P14.2: states by hand: their masks as they are met, which accept, and
// where each class leads.
func TestStatesByHand(t *testing.T) {
	for _, c := range []struct {
		e      string
		masks  []uint64
		accept string // a letter a state
		next   [][]int
	}{
		{"'a", []uint64{begin, 0, 1}, "nny", [][]int{{1, 2}, {1, 1}, {1, 1}}},
		{"()", []uint64{begin, 0}, "yn", [][]int{{1}, {1}}},
		{"[]", []uint64{begin, 0}, "nn", [][]int{{1}, {1}}},
		{"()*", []uint64{begin, 0}, "yn", [][]int{{1}, {1}}},
		{"[]*", []uint64{begin, 0}, "yn", [][]int{{1}, {1}}},
		{".", []uint64{begin, 1, 0}, "nyn", [][]int{{1}, {2}, {2}}},
		{".*", []uint64{begin, 1}, "yy", [][]int{{1}, {1}}},
		{".+", []uint64{begin, 1}, "ny", [][]int{{1}, {1}}},
		{".?", []uint64{begin, 1, 0}, "yyn", [][]int{{1}, {2}, {2}}},
		{"[^'a]*", []uint64{begin, 1, 0}, "yyn", [][]int{{1, 2}, {1, 2}, {2, 2}}},
		{"'\\u{0}*", []uint64{begin, 1, 0}, "yyn", [][]int{{1, 2}, {1, 2}, {2, 2}}},
		{"'\\u{10FFFF}*", []uint64{begin, 0, 1}, "yny", [][]int{{1, 2}, {1, 1}, {1, 2}}},
		{"'a 'b", []uint64{begin, 0, 1, 2}, "nnny", [][]int{{1, 2, 1}, {1, 1, 1}, {1, 1, 3}, {1, 1, 1}}},
		{"'b 'a", []uint64{begin, 0, 1, 2}, "nnny", [][]int{{1, 1, 2}, {1, 1, 1}, {1, 3, 1}, {1, 1, 1}}},
		{"'a 'a", []uint64{begin, 0, 1, 2}, "nnny", [][]int{{1, 2}, {1, 1}, {1, 3}, {1, 1}}},
		{"'a | 'a", []uint64{begin, 0, 3}, "nny", [][]int{{1, 2}, {1, 1}, {1, 1}}},
		{"'a | 'b", []uint64{begin, 0, 1, 2}, "nnyy", [][]int{{1, 2, 3}, {1, 1, 1}, {1, 1, 1}, {1, 1, 1}}},
		{"'b | 'a", []uint64{begin, 0, 2, 1}, "nnyy", [][]int{{1, 2, 3}, {1, 1, 1}, {1, 1, 1}, {1, 1, 1}}},
		{"'b 'a | 'b 'b", []uint64{begin, 0, 5, 2, 8}, "nnnyy", [][]int{{1, 1, 2}, {1, 1, 1}, {1, 3, 4}, {1, 1, 1}, {1, 1, 1}}},
		{"['a-'c] | ['b-'d]", []uint64{begin, 0, 1, 3, 2}, "nnyyy", [][]int{{1, 2, 3, 4}, {1, 1, 1, 1}, {1, 1, 1, 1}, {1, 1, 1, 1}, {1, 1, 1, 1}}},
		{"('a | .)*", []uint64{begin, 2, 3}, "yyy", [][]int{{1, 2}, {1, 2}, {1, 2}}},
		{"'a []", []uint64{begin, 0, 1}, "nnn", [][]int{{1, 2}, {1, 1}, {1, 1}}},
		{"[] 'a", []uint64{begin, 0}, "nn", [][]int{{1, 1}, {1, 1}}},
		{". ['a 'c]? 'b*", []uint64{begin, 1, 0, 2, 4}, "nynyy", [][]int{{1, 1, 1}, {2, 3, 4}, {2, 2, 2}, {2, 2, 4}, {2, 2, 4}}},
	} {
		d := made(t, read(t, c.e))
		if d.Len() != len(c.masks) || d.Classes() != len(c.next[0]) {
			t.Errorf("P14.1: %s: %d states, %d classes", c.e, d.Len(), d.Classes())
			continue
		}
		for state, mask := range c.masks {
			if d.Mask(state) != mask || d.Accept(state) != (c.accept[state] == 'y') {
				t.Errorf("P14.1: %s: state %d: %x, %v", c.e, state, d.Mask(state), d.Accept(state))
			}
			for class, want := range c.next[state] {
				if got := d.Next(state, class); got != want {
					t.Errorf("P14.2: %s: Next(%d, %d) = %d, want %d", c.e, state, class, got, want)
				}
			}
		}
	}
}

// P14.1: the empty state is one of them where it is met, else there is none.
func TestEmptyState(t *testing.T) {
	for s, want := range map[string]bool{".*": false, ".+": false, "('a | [^'a])*": false, ".* 'a .*": false, ". (.* | 'a)": false, "'a .*": true, ".* 'a": false, ".": true, "'a*": true, "()": true, "[^'a]+": true} {
		d := made(t, read(t, s))
		got := false
		for state := range d.Len() {
			got = got || d.Mask(state) == 0
		}
		if got != want {
			t.Errorf("P14.1: %s: the empty state: %v", s, got)
		}
	}
}

// P14.1: as many states as MaxStates, and one more.
func TestErrStates(t *testing.T) {
	base := over(api.NAlt, fromBehind('a', 'b', 6), over(api.NCat, one('c'), fromBehind('d', 'e', 5)))
	count := made(t, base).Len() // 64 and 32 by what was read last, the beginning, behind the c, the empty one
	if count != 64+32+3 {
		t.Fatalf("P14.1: %d states", count)
	}
	for more := 1; more <= 40; more++ {
		e := over(api.NAlt, base, row(more, 'f'))
		if count+more > api.MaxStates {
			isRefused(t, e)
			isRefused(t, over(api.NOpt, e))
			isRefused(t, over(api.NCat, one('g'), e))
			continue
		}
		if d := made(t, e); d.Len() != count+more || d.Mask(api.MaxStates) != 0 || d.Next(d.Len()-1, 0) < 0 {
			t.Errorf("P14.1: %d states, want %d", d.Len(), count+more)
		}
	}
	made(t, fromBehind('a', 'b', 6))
	isRefused(t, fromBehind('a', 'b', 7))
	isRefused(t, fromBehind('a', 'b', 58)) // as many places as there may be, and very many states
	if d := made(t, row(60, 'a')); d.Len() != 62 {
		t.Errorf("P14.1: %d states of 60 places", d.Len())
	}
}

// P14.1: as many classes as 60 sets of 200 ranges can cut.
func TestManyClasses(t *testing.T) {
	source := rand.New(rand.NewSource(1414))
	e, wide := none(), none()
	for range api.MaxPlaces {
		var ends []int32
		for i := range int32(api.MaxRanges) {
			lo := i*5000 + source.Int31n(2400)
			ends = append(ends, lo, lo+1+source.Int31n(2400))
		}
		e, wide = over(api.NCat, e, set(ends...)), over(api.NAlt, wide, set(ends...))
	}
	isRefused(t, wide) // each class leads to a state of its own
	a := placesOf(t, e)
	d := made(t, e)
	if d.Classes() < 20000 || d.Len() != 62 {
		t.Fatalf("P14.1: %d classes, %d states", d.Classes(), d.Len())
	}
	for state := range d.Len() {
		for range 100 {
			r := source.Int31n(api.MaxRune + 1)
			if got, want := d.Mask(d.Step(state, r)), a.Step(d.Mask(state), r); got != want {
				t.Fatalf("P14.2: from %d by %d: %x, want %x", state, r, got, want)
			}
		}
	}
}

// P14.1: Class of code points at the ends of sets, and of what is none.
func TestClass(t *testing.T) {
	d := made(t, over(api.NCat, set('a', 'f', 'x', 'x'), over(api.NAlt, set('d', 'h'), set('x', 'x')))) // 0 none, 1 a-c, 2 d-f, 3 g-h, 4 x
	for r, want := range map[int32]int{0: 0, '`': 0, 'a': 1, 'b': 1, 'c': 1, 'd': 2, 'e': 2, 'f': 2, 'g': 3, 'h': 3, 'i': 0, 'w': 0, 'x': 4, 'y': 0, 0xD800: 0, 0xDFFF: 0, 0x10FFFF: 0, -1: -1, 0x110000: -1, math.MinInt32: -1, math.MaxInt32: -1} {
		if got := d.Class(r); got != want {
			t.Errorf("P14.1: Class(%d) = %d, want %d", r, got, want)
		}
	}
	if d.Classes() != 5 {
		t.Errorf("P14.1: %d classes", d.Classes())
	}
	for _, s := range []string{"()", "[]", ".", ". . .*", "[] | .", "() ()"} {
		if d := made(t, read(t, s)); d.Classes() != 1 || d.Class(0) != 0 || d.Class(0x10FFFF) != 0 || d.Class(0x110000) != -1 || d.Class(-1) != -1 {
			t.Errorf("P14.1: %s: %d classes", s, d.Classes())
		}
	}
	for s, want := range map[string]int{"'a": 2, "'a 'a 'a": 2, "'a [] 'a": 2, "'\\u{0}": 2, "[^'a] 'a": 2, "['a-'z] 'b": 3, "['a-'m] ['k-'z]": 4} {
		if d := made(t, read(t, s)); d.Classes() != want {
			t.Errorf("P14.1: %s: %d classes", s, d.Classes())
		}
	}
}

// P14.1, P14.2: states, classes and code points that there are not.
func TestOtherNumbers(t *testing.T) {
	for _, s := range []string{"()", "'a", "'a*", "('a | 'b)+ 'c", "[]", ".*", "['a 'c]? 'd"} {
		d := made(t, read(t, s))
		for _, state := range []int{-1, -2, math.MinInt, d.Len(), d.Len() + 1, 128, 1 << 31, 1 << 32, math.MaxInt} {
			if d.Mask(state) != 0 || d.Accept(state) {
				t.Errorf("P14.1: %s: state %d: %x, %v", s, state, d.Mask(state), d.Accept(state))
			}
			for _, number := range []int{-1, 0, d.Classes() - 1, d.Classes(), math.MaxInt} {
				if d.Next(state, number) != -1 || d.Step(state, int32(number)) != -1 {
					t.Errorf("P14.2: %s: from %d by %d", s, state, number)
				}
			}
		}
		for state := range d.Len() {
			for _, class := range []int{-1, -2, math.MinInt, d.Classes(), d.Classes() + 1, 1 << 32, math.MaxInt} {
				if got := d.Next(state, class); got != -1 {
					t.Errorf("P14.2: %s: Next(%d, %d) = %d", s, state, class, got)
				}
			}
			for _, r := range []int32{-1, -2, 0x110000, 0x110001, math.MinInt32, math.MaxInt32} {
				if got := d.Step(state, r); got != -1 {
					t.Errorf("P14.2: %s: Step(%d, %d) = %d", s, state, r, got)
				}
			}
		}
	}
}

// P14.2: something that is no code point, at each place of a text.
func TestAllOfNoText(t *testing.T) {
	for _, s := range []string{".*", "'a*", "'a 'b | ()", "('a | 'b .)*"} {
		d := made(t, read(t, s))
		for _, bad := range []int32{-1, 0x110000, math.MinInt32, math.MaxInt32} {
			for _, text := range [][]int32{{}, {'a'}, {'a', 'b'}, {'b', 'b'}, {'a', 'a', 'a', 'a'}} {
				for at := range len(text) + 1 {
					if d.All(slices.Insert(slices.Clone(text), at, bad)) {
						t.Errorf("P14.2: %s: %d at %d of %v", s, bad, at, text)
					}
					if at < len(text) && d.All(slices.Replace(slices.Clone(text), at, at+1, bad)) {
						t.Errorf("P14.2: %s: %d instead of %d of %v", s, bad, at, text)
					}
				}
			}
		}
	}
}

// P14.2, P14.3: texts by hand; `-` is the empty one.
func TestAllByHand(t *testing.T) {
	for _, c := range []struct{ e, yes, no string }{
		{"'a", "a", "- b aa ab ba A"}, {"()", "-", "a aa"}, {"[]", "", "- a"}, {".", "a é \U0010FFFF", "- ab"}, {"[^'a]", "b \x00", "- a bb"},
		{"'a 'b", "ab", "- a b ba abb aab"}, {"'a []", "", "- a aa"}, {"'a | 'b 'c | 'd", "a bc d", "- b c ad ac abc"}, {"'a | []", "a", "- aa"},
		{"'a*", "- a aa aaaaaaa", "b ab ba aab"}, {"'a+", "a aa aaaaaaa", "- b ab ba"}, {"'a?", "- a", "aa b"}, {"[]*", "-", "a"}, {"[]+", "", "- a"}, {"[]?", "-", "a"},
		{"('a 'b)*", "- ab abab", "a b aba ba aab"}, {"('a | 'b)* 'c", "c ac bc abbac", "- a ab ca cc"}, {"('a | 'a 'b) ('b 'c | 'c)", "abc ac abbc", "- ab abcc abbbc"},
		{"'a* 'a 'a", "aa aaa aaaa", "- a b"}, {"('a 'a)* ('a 'a 'a)?", "- aa aaa aaaa aaaaa", "a aab"}, {"('a? 'b?)+", "- a b ab ba bb aabba", "c abc"}, {"('a* 'b)* 'c?", "- b ab c abbc aabaabc", "a ac cb"},
		{".* 'a . .", "abc aaa abcabc bbabb", "- a ab bab abbb bbaa"},
	} {
		e := read(t, c.e)
		d := made(t, e)
		hold := func(list string, want bool) {
			for _, s := range strings.Split(list, " ") {
				text := []int32(strings.TrimPrefix(s, "-"))
				if list != "" && (d.All(text) != want || match.All(e, text) != want) {
					t.Errorf("P14.3: %s, %q: %v", c.e, s, !want)
				}
			}
		}
		hold(c.yes, true)
		hold(c.no, false)
		if d.All(nil) != match.Null(e) || d.All([]int32{}) != match.Null(e) || d.Accept(0) != match.Null(e) {
			t.Errorf("P14.3: %s: the empty text", c.e)
		}
	}
}

// P14.2: long texts.
func TestLongTexts(t *testing.T) {
	long := slices.Repeat([]int32{'a', 'b'}, 100000)
	for s, want := range map[string]bool{"('a 'b)*": true, "('a 'b)* 'a": false, "('a | 'b)+": true, "'b .*": false, "'a .*": true, "'a 'b 'a": false, "()": false, "[]": false, "('a* 'b*)*": true} {
		if d := made(t, read(t, s)); d.All(long) != want {
			t.Errorf("P14.2: %s: %v", s, !want)
		}
	}
}
