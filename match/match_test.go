package match

import (
	"math"
	"slices"
	"strings"
	"testing"

	"hornbook/api"
	"hornbook/regex"
)

// set tells an NSet of ranges, by their ends.
func set(ends ...int32) api.Node {
	e := api.Node{Kind: api.NSet}
	for i := 0; i < len(ends); i += 2 {
		e.Set = append(e.Set, api.Range{Lo: ends[i], Hi: ends[i+1]})
	}
	return e
}

func one(point int32) api.Node { return set(point, point) }

func none() api.Node { return api.Node{Kind: api.NNone} }

func variable(name string) api.Node { return api.Node{Kind: api.NVar, Name: name} }

func over(kind int, kids ...api.Node) api.Node { return api.Node{Kind: kind, Kids: kids} }

// read tells the expression that s is.
func read(t *testing.T, s string) api.Node {
	t.Helper()
	e, at, err := regex.Parse(s)
	if err != api.OK {
		t.Fatalf("%s: %v at %d", s, err, at)
	}
	return e
}

func points(s string) []int32 { return []int32(s) }

// listed tells the texts of a list: `-` is the empty one.
func listed(s string) [][]int32 {
	var out [][]int32
	for _, text := range strings.Fields(strings.ReplaceAll(s, ",", " ")) {
		out = append(out, points(strings.TrimPrefix(text, "-")))
	}
	return out
}

// P8.1: what each kind matches, and what not.
func TestKinds(t *testing.T) {
	for _, c := range []struct{ e, yes, no string }{
		{"'a", "a", "-,b,aa,ab,ba,A"},
		{"['a-'c'x]", "a,b,c,x", "-,d,w,y,ab,xx,`"},
		{"[^'a]", "b,A,é,\U0010FFFF,\x00", "-,a,bb"},
		{"[]", "", "-,a,b,ab"},
		{".", "a,\x00,\U0010FFFF", "-,ab"},
		{"{Digit}", "0,9", "-,a,00"},
		{"'a'b", "ab", "-,a,b,ba,abb,aab,aba"},
		{"'a'b'c", "abc", "-,ab,bc,a,abcc,ac"},
		{"'a()", "a", "-,aa"},
		{"()'a", "a", "-,aa"},
		{"'a[]", "", "-,a,aa"},
		{"[]'a", "", "-,a,aa"},
		{"'a|'b", "a,b", "-,ab,ba,aa,c"},
		{"'a|'b'c|'d", "a,bc,d", "-,b,c,ad,ac,abc,bcd"},
		{"'a|[]", "a", "-,aa"},
		{"'a*", "-,a,aa,aaaaaaa", "b,ab,ba,aab,aba"},
		{"'a+", "a,aa,aaaaaaa", "-,b,ab,ba,aaba"},
		{"'a?", "-,a", "aa,b,ab"},
		{"('a'b)*", "-,ab,abab", "a,b,aba,ba,aab,abb"},
		{"('a'b)+", "ab,abab", "-,a,b,aba,ba"},
		{"('a'b)?", "-,ab", "a,b,abab"},
		{"('a|'b)*'c", "c,ac,bc,abbac", "-,a,ab,ca,cc"},
		{"('a*'b)*", "-,b,ab,aab,babaab", "a,ba,aba"},
		{"('a|'a'b)('b'c|'c)", "abc,ac,abbc", "-,ab,abcc,abbbc"},
		{"'a*'a'a", "aa,aaa,aaaa", "-,a,b"},
		{"('a'a)*('a'a'a)?", "-,aa,aaa,aaaa,aaaaa", "a,aab"},
		{"('a?'b?)+", "-,a,b,ab,ba,bb,aabba", "c,abc"},
		{"('a+'b+)*", "-,ab,aabb,abab,aabab", "a,b,ba,aba"},
		{"(('a?)+)?", "-,a,aa", "b,ab"},
	} {
		e := read(t, c.e)
		for _, text := range listed(c.yes) {
			if !All(e, text) {
				t.Errorf("%s doesn't match %q", c.e, string(text))
			}
		}
		for _, text := range listed(c.no) {
			if All(e, text) {
				t.Errorf("%s matches %q", c.e, string(text))
			}
		}
	}
}

// P8.1, P8.2: the empty text, and repetitions of what matches it.
func TestNull(t *testing.T) {
	for s, want := range map[string]bool{
		"()": true, "'a": false, "[]": false, ".": false, "[^]": false,
		"'a*": true, "'a+": false, "'a?": true, "[]*": true, "[]+": false, "[]?": true, "()*": true, "()+": true, "()?": true,
		"()()": true, "()'a": false, "'a()": false, "'a*'b*": true, "'a*'b": false, "'a'b*": false,
		"()|'a": true, "'a|()": true, "'a|'b": false, "'a*|'b": true, "[]|()": true, "[]|[]": false,
		"('a*)*": true, "('a*)+": true, "('a+)*": true, "('a+)+": false, "('a?)+": true, "(()|'a)+": true, "('a'b*)+": false, "('a?'b?)+": true, "('a?'b)+": false,
	} {
		e := read(t, s)
		if Null(e) != want || All(e, nil) != want || All(e, []int32{}) != want {
			t.Errorf("Null(%s) = %v", s, !want)
		}
		isAt := func(l []int, at int) bool { return slices.Contains(l, at) }
		text := points("xyz") // the empty text stands at each place
		for at := range len(text) + 1 {
			if isAt(Ends(e, text, at), at) != want || isAt(Begins(e, text, at), at) != want {
				t.Errorf("%s at %d", s, at)
			}
		}
	}
}

// P8.2: all places, rising, from each place.
func TestEndsAndBegins(t *testing.T) {
	for _, c := range []struct {
		e, text      string
		at           int
		ends, begins []int
	}{
		{"'a*", "aab", 0, []int{0, 1, 2}, []int{0}},
		{"'a*", "aab", 1, []int{1, 2}, []int{0, 1}},
		{"'a*", "aab", 2, []int{2}, []int{0, 1, 2}},
		{"'a*", "aab", 3, []int{3}, []int{3}},
		{"'a+", "aab", 0, []int{1, 2}, nil},
		{"'a+", "aab", 2, nil, []int{0, 1}},
		{"'a+", "aab", 3, nil, nil},
		{"'a", "aab", 0, []int{1}, nil},
		{"'a", "aab", 1, []int{2}, []int{0}},
		{"'a", "aab", 3, nil, nil},
		{"'b", "aab", 3, nil, []int{2}},
		{"'a'b|'a", "aab", 1, []int{2, 3}, []int{0}},
		{"'a'b|'b", "aab", 3, nil, []int{1, 2}},
		{"'a'b", "abab", 2, []int{4}, []int{0}},
		{"('a'b)*", "ababa", 0, []int{0, 2, 4}, []int{0}},
		{"('a'b)*", "ababa", 4, []int{4}, []int{0, 2, 4}},
		{"('a'b)*", "ababa", 5, []int{5}, []int{5}},
		{"('a'b)+", "ababa", 2, []int{4}, []int{0}},
		{".*'b", "abab", 0, []int{2, 4}, nil},
		{"'a.*", "abab", 4, nil, []int{0, 2}},
		{"('a'a|'a'a'a)*", "aaaaaaa", 0, []int{0, 2, 3, 4, 5, 6, 7}, []int{0}},
		{"('a'a|'a'a'a)*", "aaaaaaa", 7, []int{7}, []int{0, 1, 2, 3, 4, 5, 7}},
		{"()", "abc", 0, []int{0}, []int{0}},
		{"()", "abc", 2, []int{2}, []int{2}},
		{"()", "abc", 3, []int{3}, []int{3}},
		{"[]", "abc", 1, nil, nil},
		{"()", "", 0, []int{0}, []int{0}},
		{"'a?", "", 0, []int{0}, []int{0}},
		{".", "", 0, nil, nil},
		{"...", "abcd", 0, []int{3}, nil},
		{"...", "abcd", 1, []int{4}, nil},
		{"...", "abcd", 3, nil, []int{0}},
		{"'a'b'c|'b'c|'c", "abc", 3, nil, []int{0, 1, 2}},
		{"'c'a", "abcabc", 3, nil, nil},
		{"'c'a", "abcabc", 2, []int{4}, nil},
		{"'c'a", "abcabc", 4, nil, []int{2}},
	} {
		e := read(t, c.e)
		if got := Ends(e, points(c.text), c.at); !slices.Equal(got, c.ends) {
			t.Errorf("Ends(%s, %q, %d) = %v, want %v", c.e, c.text, c.at, got, c.ends)
		}
		if got := Begins(e, points(c.text), c.at); !slices.Equal(got, c.begins) {
			t.Errorf("Begins(%s, %q, %d) = %v, want %v", c.e, c.text, c.at, got, c.begins)
		}
	}
}

// P8.2: none, where there is no such place.
func TestPlacesBeyond(t *testing.T) {
	for _, s := range []string{"()", "'a*", ".", ".*"} {
		e := read(t, s)
		for _, text := range []string{"", "a", "aaa"} {
			for _, at := range []int{-1, -2, len(text) + 1, len(text) + 2, math.MinInt, math.MaxInt, math.MinInt32, math.MaxInt32, 1 << 32, -1 << 32} {
				room := append(points(text), 'a', 'a', 'a')[:len(text)]
				if got := Ends(e, room, at); len(got) > 0 {
					t.Errorf("Ends(%s, %q, %d) = %v", s, text, at, got)
				}
				if got := Begins(e, room, at); len(got) > 0 {
					t.Errorf("Begins(%s, %q, %d) = %v", s, text, at, got)
				}
			}
		}
	}
}

// P8.2: a text ends where it ends, whatever lies in its list's spare room.
func TestSpareRoomIsNoText(t *testing.T) {
	text := points("aaaa")[:2]
	e := read(t, "'a*")
	if got := Ends(e, text, 0); !slices.Equal(got, []int{0, 1, 2}) {
		t.Errorf("%v", got)
	}
	if All(read(t, "'a'a'a"), text) || !All(read(t, "'a'a"), text) {
		t.Error("All")
	}
}

// holdsNone holds that e matches nothing, as it is no expression here.
func holdsNone(t *testing.T, e api.Node) {
	t.Helper()
	for _, s := range []string{"", "a", "ab"} {
		text := points(s)
		if All(e, text) || Null(e) {
			t.Errorf("%.200v matches %q", e, s)
		}
		for at := range len(text) + 1 {
			if len(Ends(e, text, at)) > 0 || len(Begins(e, text, at)) > 0 {
				t.Errorf("%.200v matches in %q at %d", e, s, at)
			}
		}
	}
}

// P8.1, P8.2: one with a variable is no expression here, wherever it stands.
func TestVariablesMatchNothing(t *testing.T) {
	for _, s := range []string{"$x", "$x*", "$x?", "$x+", "()|$x", "$x|()", "'a*|$x", "'a?$x?", "$x*'a*", "(('a|$x)*)?", "[]$x|()", "'a*('b*$y?)?"} {
		holdsNone(t, read(t, s))
	}
}

// P8.2: what isn't regex's Is is no expression here either.
func TestWhatIsNoneMatchesNothing(t *testing.T) {
	for _, bad := range []api.Node{
		{}, {Kind: 9}, {Kind: -1}, {Kind: math.MaxInt},
		{Kind: api.NStar}, {Kind: api.NOpt}, {Kind: api.NPlus}, {Kind: api.NCat}, {Kind: api.NAlt},
		over(api.NStar, none(), none()), over(api.NCat, none()), over(api.NAlt, none(), none(), none()), over(api.NNone, none()), over(api.NSet, none()),
		{Kind: api.NNone, Name: "x"}, {Kind: api.NNone, Set: set('a', 'a').Set}, {Kind: api.NStar, Name: "x", Kids: []api.Node{one('a')}},
		{Kind: api.NSet, Name: "x", Set: set('a', 'a').Set}, {Kind: api.NVar}, {Kind: api.NVar, Name: "x y"},
		set('b', 'a'), set(-1, 'a'), set('a', 0x110000), set('a', 'a', 'b', 'b'), set('b', 'b', 'a', 'a'), set('a', 'c', 'b', 'd'),
	} {
		holdsNone(t, bad)
		holdsNone(t, over(api.NStar, bad))
		holdsNone(t, over(api.NOpt, over(api.NAlt, none(), bad)))
		holdsNone(t, over(api.NAlt, bad, one('a')))
		holdsNone(t, over(api.NCat, none(), over(api.NStar, bad)))
	}
}

// nested tells a node within so many others of a kind.
func nested(e api.Node, kind, n int) api.Node {
	for range n {
		e = over(kind, e)
	}
	return e
}

// P8.2: as many nodes as regex's Is takes, and one more; trees that are far too
// deep.
func TestManyNodes(t *testing.T) {
	for _, kind := range []int{api.NStar, api.NPlus, api.NOpt} {
		e := nested(one('a'), kind, 399)
		if !All(e, points("a")) || All(e, points("b")) || Null(e) != (kind != api.NPlus) {
			t.Errorf("399 of kind %d", kind)
		}
		if got := Ends(e, points("xa"), 1); !slices.Contains(got, 2) {
			t.Errorf("%v", got)
		}
		holdsNone(t, nested(one('a'), kind, 400))
		holdsNone(t, nested(none(), kind, 300000))
	}
	holdsNone(t, api.Node{Kind: api.NCat, Kids: make([]api.Node, 1000000)})
	large := api.Node{Kind: api.NSet}
	for i := range int32(201) {
		large.Set = append(large.Set, api.Range{Lo: 'a' + 2*i, Hi: 'a' + 2*i})
	}
	holdsNone(t, large)
	holdsNone(t, over(api.NOpt, large))
	large.Set = large.Set[:200]
	if !All(large, []int32{'a' + 2*199}) || All(large, []int32{'a' + 2*199 + 1}) || !All(large, points("a")) {
		t.Error("200 ranges")
	}
}

// P8.1: code points at the ends of sets and of the code space, surrogates, and
// numbers that are no code points and so in no set.
func TestCodePoints(t *testing.T) {
	anything := read(t, ".")
	for _, point := range []int32{0, 1, 0xD7FF, 0xD800, 0xDFFF, 0xE000, 0xFFFF, 0x10000, 0x10FFFE, 0x10FFFF} {
		if !All(anything, []int32{point}) || !All(one(point), []int32{point}) || All(one(point), []int32{point + 1}) || All(one(point), []int32{point - 1}) {
			t.Errorf("%X", point)
		}
	}
	for _, number := range []int32{-1, -2, 0x110000, math.MinInt32, math.MaxInt32} {
		text := []int32{'a', number, 'b'}
		if All(anything, text[1:2]) || All(read(t, "[^'a]"), text[1:2]) {
			t.Errorf("%d is in a set", number)
		}
		many := read(t, ".*")
		if !slices.Equal(Ends(many, text, 0), []int{0, 1}) || !slices.Equal(Begins(many, text, 3), []int{2, 3}) || !slices.Equal(Ends(many, text, 2), []int{2, 3}) {
			t.Errorf("%v: %v, %v", text, Ends(many, text, 0), Begins(many, text, 3))
		}
		if !Null(many) || !slices.Equal(Ends(none(), text, 1), []int{1}) {
			t.Errorf("the empty text beside %d", number)
		}
	}
	two := set('a', 'c', 'x', 'z')
	for point := int32(0x50); point < 0x90; point++ {
		want := 'a' <= point && point <= 'c' || 'x' <= point && point <= 'z'
		if All(two, []int32{point}) != want || (len(Begins(two, []int32{'q', point}, 2)) == 1) != want {
			t.Errorf("%c", point)
		}
	}
}

// P8.2: places that the signs of an expression have do not count.
func TestAtDoesNotCount(t *testing.T) {
	e := read(t, "'a 'b* | 'c?")
	moved := copyOf(e)
	moved.At, moved.Kids[0].At, moved.Kids[1].Kids[0].At = -5, math.MaxInt, 77
	for _, text := range texts(3) {
		if !slices.Equal(Ends(e, text, 0), Ends(moved, text, 0)) {
			t.Errorf("%v", text)
		}
	}
}

// P8.2: where there are many ways to match, it ends all the same.
func TestManyWays(t *testing.T) {
	long := make([]int32, 20000)
	for i := range long {
		long[i] = 'a'
	}
	every := make([]int, len(long)+1)
	for i := range every {
		every[i] = i
	}
	for _, s := range []string{"((('a*)*)*)*", "('a|'a'a|'a'a'a)*", "(('a*'a*)*'a*)*", "('a?)*('a?)*", "(('a+)+|('a*'a)*)*"} {
		e := read(t, s)
		if !slices.Equal(Ends(e, long, 0), every) || !slices.Equal(Begins(e, long, len(long)), every) || !All(e, long) {
			t.Errorf("%s", s)
		}
		never := over(api.NCat, e, one('b'))
		if len(Ends(never, long, 0)) > 0 || len(Begins(over(api.NCat, one('b'), e), long, len(long))) > 0 || All(never, long) {
			t.Errorf("%s", s)
		}
	}
	row := over(api.NOpt, one('a')) // 'a? many times, behind it 'a many times
	for range 99 {
		row = over(api.NCat, row, over(api.NOpt, one('a')))
	}
	for range 50 {
		row = over(api.NCat, row, one('a'))
	}
	if got := Ends(row, long, 7); !slices.Equal(got, every[57:158]) {
		t.Errorf("%v", got)
	}
	deep := one('a')
	for range 99 {
		deep = over(api.NStar, over(api.NCat, deep, over(api.NOpt, one('b'))))
	}
	if got := Ends(deep, long[:300], 0); !slices.Equal(got, every[:301]) {
		t.Errorf("%v", got)
	}
}

// P8.2: what can't match any more isn't read to its end: each place of a long
// text can be asked.
func TestReadingEnds(t *testing.T) {
	text := make([]int32, 300000)
	e := read(t, "'a'b|[]|'x*")
	for at := range text {
		if got := Ends(e, text, at); len(got) != 1 || got[0] != at {
			t.Fatalf("%v", got)
		}
		if got := Begins(e, text, at); len(got) != 1 || got[0] != at {
			t.Fatalf("%v", got)
		}
	}
}
