package trie

import (
	"fmt"
	"slices"
	"strings"
	"sync"
	"testing"
	"unsafe"
)

// samples tells words of tries of all kinds.
func samples() [][]string {
	return [][]string{nil, {"a"}, {"Mr", "r"}, {"c", "bc", "abc", "xbc", "xc"}, {"Mr.", "Dr.", "St.", "e.g.", "i.e.", "g."}, {"a", "aa", "aaa", "aaaa"}, {"ab", "ba", "abab", "\U0010FFFF"}}
}

// tell is all that a trie tells, of some words and texts.
func tell(x *Trie) string {
	var b strings.Builder
	fmt.Fprintln(&b, x.Len(), x.All())
	for _, text := range []string{"", "a", "abab", "aaaaa", "xbcabc", "Mr. Dr. e.g. i.e.", "xc\U0010FFFF"} {
		fmt.Fprint(&b, x.Has(points(text)))
		for to := -1; to <= len(points(text))+1; to++ {
			fmt.Fprint(&b, x.Ends(points(text), to), x.Has(points(text)[:max(0, min(to, len(points(text))))]))
		}
	}
	return b.String()
}

// spoil writes over all of a list's memory, its spare room too.
func spoil[T int | int32](list []T) {
	list = list[:cap(list)]
	for i := range list {
		list[i] = -77
	}
}

// Rule 3: what is handed in stays as it was, its spare room too.
func TestHandedInStays(t *testing.T) {
	for _, words := range samples() {
		x := with(t, words...)
		for _, word := range append(words, "zzz", "bc", "") {
			memory := points("<" + word + ">more")
			before := slices.Clone(memory)
			word := memory[1 : 1+len(points(word))]
			x.Add(word)
			x.Has(word)
			x.Ends(word, len(word))
			x.Drop(word)
			x.Add(word)
			if !slices.Equal(memory, before) {
				t.Errorf("rule 3: %q is %q", string(before), string(memory))
			}
		}
	}
}

// Rule 3: what is handed in isn't kept: other words in its place change nothing.
func TestHandedInIsNotKept(t *testing.T) {
	for _, words := range samples() {
		want := tell(with(t, words...))
		x := New()
		memory := make([]int32, 0, 20)
		for _, word := range words {
			memory = append(memory[:0], points(word)...)
			x.Add(memory)
			spoil(memory)
		}
		if got := tell(x); got != want {
			t.Errorf("rule 3: Add kept what it was handed:\n%s\nwant\n%s", got, want)
		}
	}
}

// Rule 3: what is answered is new memory, its spare room too: what is done with
// it changes neither the trie nor other answers.
func TestAnswersAreNew(t *testing.T) {
	for _, words := range samples() {
		x := with(t, words...)
		want := tell(x)
		one, two := x.All(), x.All()
		kept := fmt.Sprint(two)
		for i, word := range slices.Concat(one, two) {
			for _, other := range slices.Concat(one, two)[:i] {
				if share(word, other) {
					t.Errorf("rule 3: %v and %v share memory", word, other)
				}
			}
		}
		for _, word := range one {
			spoil(word)
		}
		clear(one[:cap(one)])
		if fmt.Sprint(two) != kept || tell(x) != want {
			t.Errorf("rule 3: words are shared: %v", two)
		}
		text := points("xbcabcMr")
		three, four := x.Ends(text, len(text)), x.Ends(text, len(text))
		lengths := fmt.Sprint(four)
		spoil(three)
		if fmt.Sprint(four) != lengths || tell(x) != want {
			t.Errorf("rule 3: lengths are shared: %v", four)
		}
	}
}

// share tells whether two lists have memory in common, spare room too.
func share(one, other []int32) bool {
	from, to := lies(one)
	begin, end := lies(other)
	return from < end && begin < to
}

func lies(list []int32) (from, to uintptr) {
	from = uintptr(unsafe.Pointer(unsafe.SliceData(list)))
	return from, from + 4*uintptr(cap(list))
}

// Rule 2: nil and an empty list are the same.
func TestNilIsEmpty(t *testing.T) {
	for _, words := range samples() {
		x := with(t, words...)
		empty := []int32{}
		if x.Add(nil) != x.Add(empty) || x.Has(nil) != x.Has(empty) || x.Drop(nil) != x.Drop(empty) {
			t.Error("rule 2: nil isn't the empty word")
		}
		for to := -1; to <= 1; to++ {
			if !slices.Equal(x.Ends(nil, to), x.Ends(empty, to)) {
				t.Errorf("rule 2: nil isn't the empty text, at %d", to)
			}
		}
	}
}

// P16.1: what asks changes nothing, nor does a call that answers false.
func TestAskingChangesNothing(t *testing.T) {
	for _, words := range samples() {
		x := with(t, words...)
		want := tell(x)
		for _, word := range append(words, "") {
			if x.Add(points(word)) {
				t.Errorf("P16.1: Add(%q)", word)
			}
		}
		for _, word := range []string{"", "M", "b", "zc", "zabc", "r.", "g", "aaaaa"} {
			if x.Drop(points(word)) {
				t.Errorf("P16.1: Drop(%q)", word)
			}
		}
		if got := tell(x); got != want || tell(x) != want {
			t.Errorf("P16.1: %q changed:\n%s", words, got)
		}
	}
}

// Rule 6: an answer hangs on the words alone: not on the order in which they
// came, nor on those that went, nor on other tries, nor on who asks at once.
func TestAskedAtOnce(t *testing.T) {
	for _, words := range samples() {
		x := with(t, words...)
		want := tell(x)
		y := with(t, "yMr", "ybc", "bcc", "zz")
		for _, word := range slices.Backward(words) {
			y.Add(points(word))
		}
		for _, word := range []string{"bcc", "yMr", "zz", "ybc"} {
			y.Drop(points(word))
		}
		if got := tell(y); got != want || tell(x) != want {
			t.Errorf("rule 6: %q otherwise in another order:\n%s", words, got)
		}
		answers := make([]string, 8)
		var wait sync.WaitGroup
		for i := range answers {
			wait.Go(func() { answers[i] = tell(x) })
		}
		wait.Wait()
		for _, got := range answers {
			if got != want {
				t.Errorf("rule 6: %q otherwise when asked at once:\n%s", words, got)
			}
		}
	}
}
