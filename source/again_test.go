package source

import (
	"math/rand"
	"slices"
	"strings"
	"testing"

	"hornbook/api"
	"hornbook/regex"
)

// isSame tells whether two sources are alike but for the places of their
// expressions.
func isSame(a, b api.Source) bool {
	return a.Parent == b.Parent && slices.Equal(a.Drop, b.Drop) && slices.Equal(a.Skip, b.Skip) && slices.Equal(a.Keep, b.Keep) &&
		slices.EqualFunc(a.Vars, b.Vars, func(v, w api.Var) bool { return v.Name == w.Name && regex.Same(v.E, w.E) }) &&
		slices.EqualFunc(a.Rules, b.Rules, func(r, q api.Rule) bool {
			return r.N == q.N && r.Break == q.Break && regex.Same(r.Left, q.Left) && regex.Same(r.Right, q.Right)
		})
}

// isReadAgain holds that what is printed of x is read as x, and tells the error
// if it is too long or too deep for that.
func isReadAgain(t *testing.T, x api.Source) api.Errno {
	t.Helper()
	printed := Print(x)
	again, at, err := Parse(printed)
	switch {
	case len(printed) > 2000:
		if err != api.ErrLong || at != 0 {
			t.Fatalf("P10.4: %.300q is read with %v at %d", printed, err, at)
		}
	case isDeep(printed):
		if err != api.ErrDeep || printed[at] != '(' {
			t.Fatalf("P10.4: %.300q is read with %v at %d", printed, err, at)
		}
	default:
		if err != api.OK || at != 0 || !isSame(x, again) || Print(again) != printed {
			t.Fatalf("P10.4: %q is read as %v, %d, %v", printed, again, at, err)
		}
	}
	return err
}

// isDeep tells whether more `(` are open somewhere in what is printed than may
// be; those in words aren't brackets.
func isDeep(printed string) bool {
	for line := range strings.Lines(printed) {
		if strings.HasPrefix(line, "skip ") || strings.HasPrefix(line, "keep ") {
			continue
		}
		open := 0
		for _, c := range line {
			if c == '(' {
				open++
			} else if c == ')' {
				open--
			}
			if open > 20 {
				return true
			}
		}
	}
	return false
}

// P10.4: what was read, printed and read again.
func TestReadAgain(t *testing.T) {
	for _, s := range []string{
		"", "parent DE_at", "$a = 'x\n$b = $a | 'y\n12: $b >< ['p-'q]\n", "3: <>\n7: 'z <>\n8: >< 'z", "drop 5\n5: ><\ndrop 2",
		"skip \"Mr.\"\nkeep \"Mr.\"\nskip \"a\\\"b\"\nkeep \"\\\\\"\nskip \"#(((((((((((((((((((\"\nkeep \"\r\t\x00\"\nskip \"\uFFFD\"",
		"1: 'a 'b 'c >< 'a ('b 'c)\n2: 'a | 'b | 'c <> 'a | ('b | 'c)\n3: [] >< [^]\n4: .+?* <> ()()", "$a = '\\u{D800} '\\u{0}\n1: $a ><", "$parent = ()\n$skip = $parent",
	} {
		if err := isReadAgain(t, isRead(t, s)); err != api.OK {
			t.Errorf("%q: %v", s, err)
		}
	}
}

// P10.4: what is printed can be too long and too deep, though it is a source; at
// the very bounds it is neither.
func TestTooLongTooDeep(t *testing.T) {
	nested := func(n int) api.Source {
		e := one(0, 'a')
		for range n {
			e = over(api.NStar, e)
		}
		return api.Source{Rules: []api.Rule{{N: 1, Left: none(0), Right: e}}}
	}
	if isReadAgain(t, nested(20)) != api.OK || isReadAgain(t, nested(21)) != api.ErrDeep {
		t.Error("P10.4: depth")
	}
	x := isRead(t, "1: "+wide(21)+" ><") // a row is nested when it is printed
	if isReadAgain(t, x) != api.OK || isReadAgain(t, isRead(t, "1: "+wide(22)+" ><")) != api.ErrDeep {
		t.Error("P10.4: a row's depth")
	}
	long := func(last int) api.Source { // its last word fills what is left of 2000 bytes
		skip := many(24, func(i int) string { return strings.Repeat("\U0001F600", 18) + string(rune('a'+i)) })
		return api.Source{Parent: "en", Keep: []string{strings.Repeat("a", 20)}, Skip: append(skip, strings.Repeat("a", last))}
	}
	size := len(Print(long(1))) - 1
	if fill := 2000 - size; fill < 1 || fill > 19 {
		t.Fatalf("%d bytes are left", fill)
	}
	if isReadAgain(t, long(2000-size)) != api.OK || isReadAgain(t, long(2001-size)) != api.ErrLong {
		t.Error("P10.4: length")
	}
}

// P10.4: sources at random, read and made by hand.
func TestReadAgainAtRandom(t *testing.T) {
	random := rand.New(rand.NewSource(12))
	again := map[api.Errno]int{}
	for range 20000 {
		if x, _, err := Parse(sourceAtRandom(random)); err == api.OK {
			again[isReadAgain(t, x)]++
		}
		if x := treeAtRandom(random); Is(x) {
			again[isReadAgain(t, x)]++
		}
	}
	if again[api.OK] < 5000 || again[api.ErrLong] < 20 || again[api.ErrDeep] < 50 {
		t.Errorf("%v", again)
	}
}
