package tag

import (
	"fmt"
	"slices"
	"strings"
	"sync"
	"testing"
	"unsafe"
)

// lies tells where a text begins and ends in memory.
func lies(s string) [2]uintptr {
	from := uintptr(unsafe.Pointer(unsafe.StringData(s)))
	return [2]uintptr{from, from + uintptr(len(s))}
}

// areApart holds that no two of all share memory.
func areApart(t *testing.T, all ...string) {
	t.Helper()
	for i, s := range all {
		for _, other := range all[:i] {
			a, b := lies(s), lies(other)
			if a[0] < b[1] && b[0] < a[1] {
				t.Errorf("%q and %q share memory", s, other)
			}
		}
	}
}

// Rule 3: what is answered is a piece neither of what was handed in nor of
// another answer.
func TestAnswersAreNewMemory(t *testing.T) {
	for _, s := range []string{"en", "EN", "deu", "root", "en-US", "en_us", "zh-Hant-TW", "de-1996", "sl-rozaj-biske-1994"} {
		s = strings.Clone(s)
		canon, _ := Canon(s)
		areApart(t, append(append(Parts(s), Parts(s)...), s, canon, Parent(s))...)
		areApart(t, append(Parts(canon), s, canon, Parent(canon))...)
	}
	first, second := Parts("zh-Hant-TW"), Parts("zh-Hant-TW")
	for i := range second[:cap(second)] {
		second[:cap(second)][i] = "other"
	}
	if !slices.Equal(first, []string{"zh", "Hant", "TW"}) || !slices.Equal(Parts("zh-Hant-TW"), first) {
		t.Error("answers share memory")
	}
}

// tell is what the calls tell of some texts.
func tell() string {
	var b strings.Builder
	for _, s := range []string{"", "root", "EN_latn-us", "en-Latn-US", "en-posix-posix", "sl-rozaj-biske-1994", "en--US", "é"} {
		canon, err := Canon(s)
		fmt.Fprintln(&b, canon, err, Is(s), Parts(s), Parent(s))
	}
	return b.String()
}

// Rule 6: an answer hangs on what is asked alone, not on what was asked before
// or is asked at once.
func TestAskedAtOnce(t *testing.T) {
	want := tell()
	answers := make([]string, 8)
	var wait sync.WaitGroup
	for i := range answers {
		wait.Go(func() { answers[i] = tell() })
	}
	wait.Wait()
	for _, got := range append(answers, tell()) {
		if got != want {
			t.Error("otherwise when asked at once")
		}
	}
}

// Rule 7: subtags can be left at any point, and gone through again, also while
// they are gone through.
func TestSubtagsByIterator(t *testing.T) {
	for _, c := range []struct {
		text string
		want []string
	}{
		{"", []string{""}},
		{"en", []string{"en"}},
		{"-", []string{"", ""}},
		{"en-_US", []string{"en", "", "US"}},
		{"_zh-Hant_TW-", []string{"", "zh", "Hant", "TW", ""}},
	} {
		all := subtags(c.text)
		for most := range len(c.want) + 1 {
			var got []string
			for subtag := range all {
				if len(got) == most {
					break
				}
				got = append(got, subtag)
				if inner := slices.Collect(all); !slices.Equal(inner, c.want) {
					t.Fatalf("%q within", inner)
				}
			}
			if !slices.Equal(got, c.want[:most]) {
				t.Errorf("%q, want %q", got, c.want[:most])
			}
		}
	}
}
