package trie

import (
	"fmt"
	"math"
	"slices"
	"strings"
	"testing"
)

// points tells the code points of a text.
func points(text string) []int32 { return []int32(text) }

// with tells a trie of words, each of which is new.
func with(t *testing.T, words ...string) *Trie {
	t.Helper()
	x := New()
	for i, word := range words {
		if !x.Add(points(word)) || x.Len() != i+1 {
			t.Fatalf("P16.1: Add(%q), then %d", word, x.Len())
		}
	}
	return x
}

// are holds all words of a trie.
func are(t *testing.T, x *Trie, want ...string) {
	t.Helper()
	var got []string
	for _, word := range x.All() {
		got = append(got, string(word))
	}
	if !slices.Equal(got, want) || x.Len() != len(want) {
		t.Errorf("P16.1: All() = %q, %d of them, want %q", got, x.Len(), want)
	}
	for _, word := range want {
		if !x.Has(points(word)) {
			t.Errorf("P16.1: %q isn't there", word)
		}
	}
}

// end holds what words of a trie stand in a text ahead of a place.
func end(t *testing.T, x *Trie, text string, to int, want ...int) {
	t.Helper()
	if got := x.Ends(points(text), to); !slices.Equal(got, want) {
		t.Errorf("P16.1: Ends(%q, %d) = %v, want %v", text, to, got, want)
	}
}

// The chapter's example.
func TestExample(t *testing.T) {
	end(t, with(t, "Mr", "r"), "Mr", 2, 1, 2)
	end(t, with(t, "r", "Mr"), "Mr", 2, 1, 2)
}

// P16.1: a trie without words, made by New or as a variable begins.
func TestNoWords(t *testing.T) {
	for _, x := range []*Trie{New(), {}} {
		if x.Len() != 0 || len(x.All()) != 0 || x.Has(points("a")) || x.Drop(points("a")) || x.Len() != 0 {
			t.Errorf("P16.1: New() has words: %v", x.All())
		}
		end(t, x, "", 0)
		end(t, x, "ab", 2)
		if !x.Add(points("a")) || !x.Has(points("a")) || x.Len() != 1 {
			t.Error("P16.1: Add(a)")
		}
	}
}

// P16.1: the empty word is never there.
func TestEmptyWord(t *testing.T) {
	for _, x := range []*Trie{New(), with(t, "a"), with(t, "ab", "b")} {
		want := x.Len()
		for _, empty := range [][]int32{nil, {}, points("ab")[:0]} {
			if x.Add(empty) || x.Has(empty) || x.Drop(empty) || x.Len() != want || len(x.All()) != want {
				t.Errorf("P16.1: the empty word, of %d: %v", want, x.All())
			}
		}
	}
	end(t, with(t, "a"), "", 0)
	end(t, with(t, "a"), "a", 0)
}

// P16.1: a word is listed once, and goes at once.
func TestTwice(t *testing.T) {
	x := with(t, "Mr.", "Dr.")
	for range 3 {
		if x.Add(points("Mr.")) {
			t.Error("P16.1: Add of a word that is there")
		}
		are(t, x, "Dr.", "Mr.")
	}
	if !x.Drop(points("Mr.")) || x.Drop(points("Mr.")) || x.Has(points("Mr.")) {
		t.Error("P16.1: Drop(Mr.)")
	}
	are(t, x, "Dr.")
	end(t, x, "Mr.", 3)
	if !x.Add(points("Mr.")) || x.Add(points("Mr.")) {
		t.Error("P16.1: Add of a word that was dropped")
	}
	are(t, x, "Dr.", "Mr.")
	end(t, x, "Mr.", 3, 3)
}

// P16.1: what other words begin with, end with or have within isn't there for
// that, nor dropped with them, nor do they go with it.
func TestPartsOfWords(t *testing.T) {
	x := with(t, "abcd")
	for _, part := range []string{"a", "ab", "abc", "b", "bc", "bcd", "c", "cd", "d", "aabcd", "abcda", "abbcd", "dcba"} {
		if x.Has(points(part)) || x.Drop(points(part)) {
			t.Errorf("P16.1: %q is there", part)
		}
	}
	are(t, x, "abcd")
	all := []string{"a", "aabcd", "ab", "abc", "abcd", "abcda", "b", "bc", "bcd", "c", "cd", "d"}
	for _, word := range all {
		x.Add(points(word))
	}
	are(t, x, all...)
	end(t, x, "aabcd", 5, 1, 2, 3, 4, 5)
	for i, word := range all {
		if !x.Drop(points(word)) {
			t.Errorf("P16.1: Drop(%q)", word)
		}
		are(t, x, all[i+1:]...)
	}
}

// P16.1: words of which each is the end of another one, dropped in each order.
func TestEndsOfWords(t *testing.T) {
	words := []string{"c", "bc", "abc", "xbc", "xc"}
	for _, order := range orders(len(words)) {
		x := with(t, words...)
		left := slices.Clone(words)
		for _, i := range order {
			if !x.Drop(points(words[i])) || x.Drop(points(words[i])) {
				t.Fatalf("P16.1: Drop(%q), in the order %v", words[i], order)
			}
			left = slices.DeleteFunc(left, func(word string) bool { return word == words[i] })
			slices.Sort(left)
			are(t, x, left...)
		}
	}
}

// P16.1, P16.2: at each place of a text, and at what is no place of it.
func TestPlaces(t *testing.T) {
	x := with(t, "a", "ab", "b", "bab", "ababab", "cababab", "ba")
	text := "ababab"
	for to, want := range [][]int{nil, {1}, {1, 2}, {1, 2}, {1, 2, 3}, {1, 2}, {1, 2, 3, 6}} {
		end(t, x, text, to, want...)
	}
	for _, to := range []int{-1, -2, math.MinInt, 7, 8, math.MaxInt, math.MaxInt32, math.MinInt32} {
		end(t, x, text, to)
		end(t, x, "", to)
	}
	end(t, x, "", 0)
	if got := x.Ends(nil, 0); len(got) > 0 {
		t.Errorf("P16.1: Ends(nil, 0) = %v", got)
	}
	if got := x.Ends(points(text)[:5], 6); len(got) > 0 {
		t.Errorf("P16.1: Ends looks into spare room: %v", got)
	}
}

// P16.2: what stands behind the place doesn't count, nor does a word that only
// stands further ahead.
func TestOnlyJustAhead(t *testing.T) {
	x := with(t, "Mr.", "Mr. ")
	end(t, x, "Mr. X", 3, 3)
	end(t, x, "Mr. X", 4, 4)
	end(t, x, "Mr. X", 2)
	end(t, x, "Mr. X", 5)
	end(t, x, "aMr.", 4, 3)
	end(t, x, "r.", 2)
	end(t, x, ".rM", 3)
}

// P16.1: a word as long as the text, and one that is one longer.
func TestAsLongAsTheText(t *testing.T) {
	x := with(t, "abc", "xabc", "c")
	end(t, x, "abc", 3, 1, 3)
	end(t, x, "xabc", 4, 1, 3, 4)
	end(t, x, "bc", 2, 1)
	end(t, x, "c", 1, 1)
}

// P16.1: numbers that are no code points are taken as others are.
func TestNoCodePoints(t *testing.T) {
	numbers := []int32{math.MinInt32, math.MinInt32 + 1, -0x110000, -1, 0, 'a', 0xD7FF, 0xD800, 0xDFFF, 0xE000, 0x10FFFF, 0x110000, math.MaxInt32 - 1, math.MaxInt32}
	x := New()
	var want [][]int32
	for _, n := range numbers {
		want = append(want, []int32{n})
		for _, m := range numbers {
			want = append(want, []int32{n, m})
		}
	}
	for _, word := range slices.Backward(want) {
		if !x.Add(word) {
			t.Errorf("P16.1: Add(%v)", word)
		}
	}
	if got := x.All(); !slices.EqualFunc(got, want, slices.Equal) {
		t.Errorf("P16.1: All() = %v, want %v", got, want)
	}
	for i := range numbers {
		if got := x.Ends(numbers, i+1); !slices.Equal(got, []int{1, 2}[:min(i+1, 2)]) {
			t.Errorf("P16.1: Ends of numbers at %d: %v", i+1, got)
		}
	}
	for i, word := range want {
		if !x.Has(word) || !x.Drop(word) || x.Has(word) || x.Len() != len(want)-1-i {
			t.Errorf("P16.1: Drop(%v)", word)
		}
	}
}

// P16.1: words come by their code points, whatever order they were added in.
func TestOrder(t *testing.T) {
	words := []string{"A", "Aa", "B", "a", "aA", "aB", "ab", "b", "ba", "é", "\uFFFF", "\U00010000"} // not by bytes of UTF-16
	for _, order := range orders(5) {
		var rows []string
		for _, i := range order {
			rows = append(rows, words[i], words[i+5])
		}
		are(t, with(t, append(rows, words[10], words[11])...), words...)
	}
	x := New()
	for _, word := range [][]int32{{1}, {-1, 5}, {0}, {-1}, {-2, 9, 9}, {1, -1}, {1, 0}} {
		x.Add(word)
	}
	if got := fmt.Sprint(x.All()); got != "[[-2 9 9] [-1] [-1 5] [0] [1] [1 -1] [1 0]]" {
		t.Errorf("P16.1: All() = %v", got)
	}
}

// P16.1: long words, long texts and many words are soon told.
func TestGreat(t *testing.T) {
	long := points(strings.Repeat("ab", 200_000))
	x := New()
	for from := range 100 {
		if !x.Add(long[from:]) {
			t.Fatal("P16.1: Add of a long word")
		}
	}
	if got := x.Ends(long, len(long)); len(got) != 100 || got[0] != len(long)-99 || got[99] != len(long) {
		t.Errorf("P16.1: Ends of long words: %v", got)
	}
	if got := x.All(); len(got) != 100 || len(got[0]) != len(long)-98 || len(got[99]) != len(long)-1 {
		t.Errorf("P16.1: All of long words: %d", len(got))
	}
	for from := range 100 {
		if !x.Drop(long[from:]) || x.Len() != 99-from {
			t.Fatal("P16.1: Drop of a long word")
		}
	}
	for n := range 100_000 {
		word := fmt.Appendf(nil, "%d.", n)
		if !x.Add(points(string(word))) {
			t.Fatalf("P16.1: Add(%q)", word)
		}
	}
	for to := range len(long) + 1 {
		if len(x.Ends(long, to)) > 0 {
			t.Fatalf("P16.1: Ends at %d of a long text", to)
		}
	}
	end(t, x, "120345.", 7, 2, 3, 4, 6)
	if all := x.All(); len(all) != 100_000 || string(all[2]) != "10." || string(all[99_999]) != "99999." {
		t.Errorf("P16.1: All of many words: %d", len(all))
	}
}

// orders tells each order of the numbers below n.
func orders(n int) [][]int {
	if n == 0 {
		return [][]int{nil}
	}
	var out [][]int
	for _, less := range orders(n - 1) {
		for at := range n {
			out = append(out, slices.Insert(slices.Clone(less), at, n-1))
		}
	}
	return out
}
