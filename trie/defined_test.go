package trie

import (
	"fmt"
	"math"
	"math/rand"
	"slices"
	"testing"
)

// list is a trie by the chapter's words: words in whatever order they came.
type list [][]int32

func (l list) find(word []int32) int {
	return slices.IndexFunc(l, func(one []int32) bool { return slices.Equal(one, word) })
}

func (l *list) add(word []int32) bool {
	if len(word) == 0 || l.find(word) >= 0 {
		return false
	}
	*l = append(*l, slices.Clone(word))
	return true
}

func (l *list) drop(word []int32) bool {
	i := l.find(word)
	if i < 0 {
		return false
	}
	*l = slices.Delete(*l, i, i+1)
	return true
}

func (l list) ends(text []int32, to int) []int {
	var lengths []int
	for n := 1; n <= to && to <= len(text); n++ {
		if l.find(text[to-n:to]) >= 0 {
			lengths = append(lengths, n)
		}
	}
	return lengths
}

func (l list) all() [][]int32 {
	out := slices.Clone(l)
	slices.SortFunc(out, func(one, other []int32) int {
		for i := range min(len(one), len(other)) {
			if one[i] < other[i] {
				return -1
			}
			if one[i] > other[i] {
				return 1
			}
		}
		return len(one) - len(other)
	})
	return out
}

// isAsDefined holds all that x tells of some words and texts against a list.
func isAsDefined(t *testing.T, x *Trie, l list, words, texts [][]int32) {
	t.Helper()
	if got, want := x.All(), l.all(); fmt.Sprint(got) != fmt.Sprint(want) || x.Len() != len(l) {
		t.Fatalf("P16.1: All() = %v, %d of them, want %v", got, x.Len(), want)
	}
	for _, word := range words {
		if x.Has(word) != (l.find(word) >= 0) {
			t.Fatalf("P16.1: Has(%v) = %v of %v", word, x.Has(word), l)
		}
	}
	for _, text := range texts {
		for to := -2; to <= len(text)+2; to++ {
			if got, want := x.Ends(text, to), l.ends(text, to); !slices.Equal(got, want) {
				t.Fatalf("P16.1: Ends(%v, %d) = %v, want %v of %v", text, to, got, want, l)
			}
		}
	}
}

// textsOf tells all texts of at most so many of some numbers.
func textsOf(numbers []int32, most int) [][]int32 {
	out := [][]int32{nil}
	for from := 0; len(out[len(out)-1]) < most; {
		to := len(out)
		for _, text := range out[from:to] {
			for _, n := range numbers {
				out = append(out, append(slices.Clone(text), n))
			}
		}
		from = to
	}
	return out
}

// P16.1, P16.2: of each set of words of up to two letters, and of each one of
// three and more without some, all that can be asked.
func TestAllSmallOnes(t *testing.T) {
	texts := textsOf([]int32{'a', 'b'}, 3)
	words := texts[1:]
	for mask := range 1 << len(words) {
		if mask>>6 != 0 && mask%37 != 0 { // of those with words of three, some
			continue
		}
		x, l := New(), list(nil)
		for i, word := range words {
			if mask>>i&1 == 1 && x.Add(word) != l.add(word) {
				t.Fatalf("P16.1: Add(%v)", word)
			}
		}
		isAsDefined(t, x, l, texts, texts)
		for _, word := range words {
			if mask%3 != int(word[0])%3 {
				continue
			}
			if x.Drop(word) != l.drop(word) {
				t.Fatalf("P16.1: Drop(%v)", word)
			}
		}
		isAsDefined(t, x, l, texts, texts)
	}
}

// someOf tells a text of so many numbers at most, at random.
func someOf(source *rand.Rand, numbers []int32, most int) []int32 {
	var text []int32
	for range source.Intn(most + 1) {
		text = append(text, numbers[source.Intn(len(numbers))])
	}
	return text
}

// P16.1, P16.2: rows of Add, Drop and Has at random, and all that can be asked
// behind each step.
func TestRowsAtRandom(t *testing.T) {
	kinds := [][]int32{{'a'}, {'a', 'b'}, {'a', 'b', 'c', 'd'}, {math.MinInt32, -1, 0, 0xD800, 0x10FFFF, 0x110000, math.MaxInt32}}
	for round := range 40 {
		source := rand.New(rand.NewSource(int64(round)))
		numbers := kinds[round%len(kinds)]
		most := 1 + source.Intn(7)
		adds := 2 + source.Intn(6) // of nine steps
		x, l := New(), list(nil)
		for step := range 150 {
			word := someOf(source, numbers, most)
			if len(l) > 0 && source.Intn(3) == 0 { // one that is there, or one near it
				word = slices.Clone(l[source.Intn(len(l))])
				word = append(word[source.Intn(2):], someOf(source, numbers, 1)...)
			}
			if source.Intn(9) < adds {
				if got, want := x.Add(word), l.add(word); got != want {
					t.Fatalf("P16.1: round %d, step %d: Add(%v) = %v", round, step, word, got)
				}
			} else if got, want := x.Drop(word), l.drop(word); got != want {
				t.Fatalf("P16.1: round %d, step %d: Drop(%v) = %v", round, step, word, got)
			}
			texts := [][]int32{nil, word, someOf(source, numbers, 2*most), someOf(source, numbers, 2*most)}
			isAsDefined(t, x, l, append(texts, l...), texts)
		}
	}
}
