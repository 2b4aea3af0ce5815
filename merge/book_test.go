package merge

import (
	"fmt"
	"reflect"
	"slices"
	"strings"
	"testing"

	"hornbook/api"
	"hornbook/source"
)

// read tells sources by their texts.
func read(t *testing.T, texts ...string) []api.Source {
	t.Helper()
	var l []api.Source
	for _, s := range texts {
		x, at, err := source.Parse(s)
		if err != api.OK {
			t.Fatalf("%q: %v at %d", s, err, at)
		}
		l = append(l, x)
	}
	return l
}

// bookOf tells the book of sources that are told by their texts.
func bookOf(t *testing.T, texts ...string) api.Book {
	t.Helper()
	b, err := Book(read(t, texts...))
	if err != api.OK || !Is(b) {
		t.Fatalf("P12.1: Book(%q) = %v, %v", texts, b, err)
	}
	return b
}

// lines tells so many lines, each with its number from from on.
func lines(form string, from, n int) string {
	var out strings.Builder
	for i := range n {
		fmt.Fprintf(&out, form+"\n", from+i)
	}
	return out.String()
}

// P12.1, P12.3: what sources make of each other, by the lines that are printed.
func TestBook(t *testing.T) {
	for _, c := range []struct {
		what  string
		texts []string
		want  string
	}{
		{"no source", nil, ""},
		{"a source without anything", []string{""}, ""},
		{"many without anything", []string{"", "parent en", "$a = 'x", "drop 1\nkeep \"a\""}, ""},
		{"one source", []string{"2: <>\n1: ><\nskip \"b\"\nskip \"a\""}, "1: () >< ()\n2: () <> ()\nskip \"a\"\nskip \"b\"\n"},
		{"variables are filled in", []string{"$a = 'x\n$b = $a*\n1: $a >< $b"}, "1: ['\\u{78}] >< (['\\u{78}])*\n"},
		{"variables of another source are not asked", []string{"$a = 'x\n1: $a ><", "$a = 'y\n2: $a <>"}, "1: ['\\u{78}] >< ()\n2: ['\\u{79}] <> ()\n"},
		{"unlike numbers", []string{"5: ><", "3: <>", "9: ><", "0: <>", "9999: ><"}, "0: () <> ()\n3: () <> ()\n5: () >< ()\n9: () >< ()\n9999: () >< ()\n"},
		{"numbers aren't texts", []string{"10: ><\n9: ><\n100: ><"}, "9: () >< ()\n10: () >< ()\n100: () >< ()\n"},
		{"like numbers", []string{"1: 'a ><", "1: 'b <>"}, "1: ['\\u{62}] <> ()\n"},
		{"like numbers thrice", []string{"1: 'a ><", "1: 'b <>", "1: >< 'c"}, "1: () >< ['\\u{63}]\n"},
		{"a drop of what is there", []string{"1: ><\n2: ><", "drop 1"}, "2: () >< ()\n"},
		{"a drop of what isn't there", []string{"1: ><", "drop 2"}, "1: () >< ()\n"},
		{"a drop ahead of all", []string{"drop 1", "1: ><"}, "1: () >< ()\n"},
		{"a drop of a rule that came two ahead", []string{"1: ><", "2: ><", "drop 1"}, "2: () >< ()\n"},
		{"a drop and a rule by one source", []string{"1: 'a ><", "1: 'b ><\ndrop 1"}, "1: ['\\u{62}] >< ()\n"},
		{"a drop ahead of a rule by one source", []string{"1: 'a ><", "drop 1\n1: 'b ><"}, "1: ['\\u{62}] >< ()\n"},
		{"a drop and a rule by the first source", []string{"1: 'a ><\ndrop 1"}, "1: ['\\u{61}] >< ()\n"},
		{"dropped, and there again", []string{"1: 'a ><", "drop 1", "1: 'b ><"}, "1: ['\\u{62}] >< ()\n"},
		{"dropped twice", []string{"1: 'a ><", "drop 1", "drop 1"}, ""},
		{"there again, dropped again", []string{"1: 'a ><", "drop 1", "1: 'b ><", "drop 1"}, ""},
		{"a drop does nothing to words", []string{"skip \"1\"", "drop 1"}, "skip \"1\"\n"},
		{"a keep does nothing to rules", []string{"1: ><", "keep \"1\""}, "1: () >< ()\n"},
		{"skipped", []string{"skip \"a\"", "skip \"b\""}, "skip \"a\"\nskip \"b\"\n"},
		{"skipped twice", []string{"skip \"a\"", "skip \"a\""}, "skip \"a\"\n"},
		{"kept", []string{"skip \"a\"\nskip \"b\"", "keep \"a\""}, "skip \"b\"\n"},
		{"kept, not there", []string{"skip \"a\"", "keep \"b\""}, "skip \"a\"\n"},
		{"kept ahead of all", []string{"keep \"a\"", "skip \"a\""}, "skip \"a\"\n"},
		{"kept and skipped by one source", []string{"skip \"a\"\nkeep \"a\""}, "skip \"a\"\n"},
		{"kept and skipped by a later one", []string{"skip \"a\"", "skip \"a\"\nkeep \"a\""}, "skip \"a\"\n"},
		{"skipped, kept, skipped again", []string{"skip \"a\"", "keep \"a\"", "skip \"a\""}, "skip \"a\"\n"},
		{"skipped, kept, skipped, kept", []string{"skip \"a\"", "keep \"a\"", "skip \"a\"", "keep \"a\""}, ""},
		{"a word that begins like another", []string{"skip \"ab\"\nskip \"a\"", "keep \"ab\""}, "skip \"a\"\n"},
		{"words byte by byte", []string{"skip \"b\"\nskip \"aa\"\nskip \"\U00010000\"", "skip \"a\"\nskip \"B\"\nskip \"\uFFFD\"", "skip \"é\"\nskip \"z\"\nskip \" \""},
			"skip \" \"\nskip \"B\"\nskip \"a\"\nskip \"aa\"\nskip \"b\"\nskip \"z\"\nskip \"é\"\nskip \"\uFFFD\"\nskip \"\U00010000\"\n"},
		{"words with marks", []string{`skip "a\"b"` + "\n" + `skip "a\\b"`}, `skip "a\"b"` + "\n" + `skip "a\\b"` + "\n"},
		{"parents aren't asked", []string{"parent de\n1: ><", "parent fr\n2: ><"}, "1: () >< ()\n2: () >< ()\n"},
	} {
		if got := Print(bookOf(t, c.texts...)); got != c.want {
			t.Errorf("P12.1: %s: %q, want %q", c.what, got, c.want)
		}
		isDefined(t, read(t, c.texts...))
	}
}

// P12.3: of two that say otherwise the younger one is heard, whichever it is.
func TestTheYoungerOverrules(t *testing.T) {
	says := []string{"1: 'a ><\nskip \"w\"", "1: 'b <>\nkeep \"w\"", "drop 1\nkeep \"w\"", "drop 1\n1: 'c ><\nkeep \"w\"\nskip \"w\""}
	for _, elder := range says {
		for _, younger := range says {
			alone := bookOf(t, younger)
			if got := bookOf(t, elder, younger); !Same(got, alone) {
				t.Errorf("P12.3: %q behind %q: %v, want %v", younger, elder, got, alone)
			}
			if got := bookOf(t, younger, elder, younger); !Same(got, alone) {
				t.Errorf("P12.3: %q twice: %v, want %v", younger, got, alone)
			}
		}
	}
}

// P12.1: one that is no source, at each place, whatever else there is.
func TestNoSource(t *testing.T) {
	bad := map[string]api.Source{
		"a parent that isn't canonical": {Parent: "EN"},
		"root as a parent":              {Parent: "root"},
		"no name":                       {Vars: []api.Var{{Name: "", E: none(0)}}},
		"a variable that holds one":     {Vars: []api.Var{{Name: "a", E: none(0)}, {Name: "b", E: api.Node{Kind: api.NVar, Name: "a"}}}},
		"a side that is no expression":  {Rules: []api.Rule{{N: 1, Left: none(0)}}},
		"a side that holds a variable":  {Rules: []api.Rule{{N: 1, Left: api.Node{Kind: api.NVar, Name: "a"}, Right: none(0)}}},
		"a number below 0":              {Rules: []api.Rule{{N: -1, Left: none(0), Right: none(0)}}},
		"a number too high":             {Drop: []int{10000}},
		"a rule twice":                  {Rules: []api.Rule{{N: 1, Left: none(0), Right: none(0)}, {N: 1, Left: none(0), Right: none(0)}}},
		"a drop twice":                  {Drop: []int{3, 3}},
		"a word twice":                  {Skip: []string{"a", "a"}},
		"a word without anything":       {Keep: []string{""}},
		"a word with a line feed":       {Skip: []string{"a\n"}},
		"too long a word":               {Keep: []string{strings.Repeat("a", 21)}},
	}
	good := read(t, "1: 'a ><\nskip \"w\"", "", "drop 1\nkeep \"w\"", lines("%d: ><", 0, 30), lines("%d: ><", 30, 30)) // too many, too
	for what, x := range bad {
		if b, err := Book([]api.Source{x}); err != api.ErrForm || len(b.Rules)+len(b.Skip) > 0 {
			t.Errorf("P12.1: %s: %v, %v", what, b, err)
		}
		for i := range len(good) + 1 {
			l := slices.Insert(slices.Clone(good), i, x)
			if b, err := Book(l); err != api.ErrForm || len(b.Rules)+len(b.Skip) > 0 {
				t.Errorf("P12.1: %s at %d: %v, %v", what, i, b, err)
			}
		}
	}
}

// P12.1: as many as may be, and one more, of small sources; too many on the way
// that are few enough at the end; both, and both too many.
func TestMany(t *testing.T) {
	rules := func(from, n int) string { return lines("%d: ><", from, n) }
	drops := func(from, n int) string { return lines("drop %d", from, n) }
	skips := func(from, n int) string { return lines("skip \"%d\"", from, n) }
	keeps := func(from, n int) string { return lines("keep \"%d\"", from, n) }
	for i, c := range []struct {
		texts        []string
		rules, words int // -1: too many
	}{
		{[]string{rules(0, 30)}, 30, 0},
		{[]string{rules(0, 10), rules(10, 10), rules(20, 10)}, 30, 0},
		{[]string{rules(0, 10), rules(10, 10), rules(20, 10), rules(30, 1)}, -1, 0},
		{[]string{rules(0, 10), rules(10, 10), rules(20, 10), rules(0, 30)}, 30, 0},
		{[]string{rules(0, 30), rules(30, 1)}, -1, 0},
		{[]string{rules(1, 30), rules(0, 1)}, -1, 0},
		{[]string{rules(0, 30), rules(30, 1) + drops(5, 1)}, 30, 0},
		{[]string{rules(0, 30), rules(30, 1), drops(5, 1)}, 30, 0},
		{[]string{rules(0, 30), rules(30, 1), drops(30, 1)}, 30, 0},
		{[]string{rules(0, 30), rules(30, 1), drops(31, 1)}, -1, 0},
		{[]string{rules(0, 30), rules(30, 30), rules(60, 30), drops(0, 30), drops(30, 30)}, 30, 0},
		{[]string{rules(0, 30), rules(30, 30), rules(60, 30), drops(0, 30), drops(30, 29)}, -1, 0},
		{[]string{rules(0, 30), rules(30, 30), drops(0, 30), drops(30, 30)}, 0, 0},
		{[]string{skips(0, 30)}, 0, 30},
		{[]string{skips(0, 10), skips(10, 10), skips(20, 10)}, 0, 30},
		{[]string{skips(0, 10), skips(10, 10), skips(20, 10), skips(30, 1)}, 0, -1},
		{[]string{skips(0, 30), skips(0, 30)}, 0, 30},
		{[]string{skips(0, 30), skips(30, 1)}, 0, -1},
		{[]string{skips(0, 30), skips(30, 1) + keeps(3, 1)}, 0, 30},
		{[]string{skips(0, 30), skips(30, 1), keeps(3, 1)}, 0, 30},
		{[]string{skips(0, 30), skips(30, 1), keeps(31, 1)}, 0, -1},
		{[]string{skips(0, 30), skips(30, 1) + keeps(30, 1)}, 0, -1},
		{[]string{skips(0, 30), skips(30, 30), keeps(0, 30), keeps(30, 30)}, 0, 0},
		{[]string{rules(0, 30), skips(0, 30)}, 30, 30},
		{[]string{rules(0, 30), skips(0, 30), rules(30, 1)}, -1, 30},
		{[]string{rules(0, 30), skips(0, 30), skips(30, 1)}, 30, -1},
		{[]string{rules(0, 30), skips(0, 30), skips(30, 1), rules(30, 1)}, -1, -1},
		{[]string{rules(0, 20), skips(0, 20)}, 20, 20}, // more in all, fewer of each
	} {
		want := api.OK
		if c.rules < 0 || c.words < 0 {
			want, c.rules, c.words = api.ErrMany, 0, 0
		}
		b, err := isDefined(t, read(t, c.texts...))
		if err != want || len(b.Rules) != c.rules || len(b.Skip) != c.words {
			t.Errorf("P12.1: row %d: %d rules, %d words, %v, want %d, %d, %v", i, len(b.Rules), len(b.Skip), err, c.rules, c.words, want)
		}
	}
}

// P12.1: of a great many sources, whose words go again or not.
func TestManySources(t *testing.T) {
	var l []api.Source
	for i := range 20000 {
		x := api.Source{Rules: []api.Rule{{N: 9999 - i%10000, Left: none(i), Right: none(i)}}}
		for k := range 10 {
			x.Skip = append(x.Skip, fmt.Sprintf("%07d", 999999-i*10-k))
		}
		l = append(l, x)
	}
	if b, err := Book(l); err != api.ErrMany || len(b.Rules)+len(b.Skip) > 0 {
		t.Errorf("P12.1: %v, %v", b, err)
	}
	for i := range l[:10000] {
		l = append(l, api.Source{Drop: []int{i}})
	}
	for _, x := range l[1:20000] {
		l = append(l, api.Source{Keep: x.Skip})
	}
	b, err := Book(l)
	if err != api.OK || len(b.Rules) != 0 || len(b.Skip) != 10 || b.Skip[0] != "0999990" || b.Skip[9] != "0999999" {
		t.Errorf("P12.1: %v, %v", b, err)
	}
}

// P12.1: whatever order a source's own lists have, and its sources where they
// don't touch the same: the book is the same.
func TestOrder(t *testing.T) {
	parts := []string{"3: 'c ><", "1: 'a <>", "2: >< 'b", "drop 7", "drop 5", "skip \"b\"", "skip \"a\"", "skip \"ab\"", "keep \"c\""}
	base := "5: ><\n7: <>\nskip \"c\""
	want := bookOf(t, base, strings.Join(parts, "\n"))
	if Print(want) != "1: ['\\u{61}] <> ()\n2: () >< ['\\u{62}]\n3: ['\\u{63}] >< ()\nskip \"a\"\nskip \"ab\"\nskip \"b\"\n" {
		t.Fatalf("P12.1: %q", Print(want))
	}
	for range len(parts) {
		parts = append(parts[1:], parts[0])
		turned := slices.Clone(parts)
		slices.Reverse(turned)
		for _, row := range [][]string{parts, turned} {
			for _, got := range []api.Book{bookOf(t, base, strings.Join(row, "\n")), bookOf(t, append([]string{base}, row...)...)} {
				if !reflect.DeepEqual(plain(got, 1), plain(want, 1)) {
					t.Errorf("P12.1: %q: %v, want %v", row, got, want)
				}
			}
		}
	}
}

// P12.1: sides have places in a source, below too, and none in a book; all else
// of them is as it was.
func TestPlaces(t *testing.T) {
	l := read(t, "$v = ('a 'b | 'c+)? . {Digit}\n  3: $v* (['x-'z 'p] ()) >< [] | $v", "\n\n12:   'q <> ( 'r 's )")
	before := []api.Rule{l[0].Rules[0], l[1].Rules[0]}
	b, err := Book(l)
	if err != api.OK || len(b.Rules) != 2 {
		t.Fatalf("P12.1: %v, %v", b, err)
	}
	for i, r := range b.Rules {
		had := before[i]
		if !hasAt(had.Left) || !hasAt(had.Right) || hasAt(r.Left) || hasAt(r.Right) {
			t.Errorf("P12.1: %v of %v", r, had)
		}
		if !reflect.DeepEqual(plainNode(r.Left, 1), plainNode(had.Left, 0)) || !reflect.DeepEqual(plainNode(r.Right, 1), plainNode(had.Right, 0)) || r.N != had.N || r.Break != had.Break {
			t.Errorf("P12.1: %v of %v", r, had)
		}
	}
	far := api.Source{Rules: []api.Rule{{N: 1, Left: none(-5), Right: over(api.NOpt, over(api.NCat, one(1<<40, 'a'), none(-1)))}}}
	if b, err := Book([]api.Source{far}); err != api.OK || !Is(b) || hasAt(b.Rules[0].Left) || hasAt(b.Rules[0].Right) {
		t.Errorf("P12.1: %v, %v", b, err)
	}
}

// hasAt tells whether e or one below it has a place.
func hasAt(e api.Node) bool { return !reflect.DeepEqual(plainNode(e, 1), plainNode(e, 0)) }
