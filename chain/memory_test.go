package chain

import (
	"cmp"
	"iter"
	"slices"
	"strings"
	"sync"
	"testing"
	"unsafe"

	"hornbook/api"
)

// knownForests tells forests of all kinds, as words.
func knownForests() []string {
	return []string{
		"", "root", "en en-GB fr:en-GB de:zz root", "aa:bb bb:aa cc:aa dd", "root:root en", row(6, ""), row(7, ""), row(6, "aa"), row(7, "zz"),
		"zh-Hant-TW-1abc-abcde zh-Hant-TW-1abc zh-Hant-TW zh-Hant zh root",
	}
}

// spoil writes over all of a list's memory, its spare room too.
func spoil(list []string) {
	list = list[:cap(list)]
	for i := range list {
		list[i] = "spoilt"
	}
}

// Rule 3: what is handed out can be changed by the caller: neither the forest
// nor another answer is.
func TestAnswersAreNewMemory(t *testing.T) {
	for _, words := range knownForests() {
		f := forest(t, words)
		want := tell(f, poolOfTags()...)
		for _, locale := range append(f.All(), "it") {
			for _, ask := range []func() []string{
				f.All,
				func() []string { chain, _ := f.Chain(locale); return chain },
				func() []string { return f.Under(locale) },
			} {
				first, second := ask(), ask()
				kept := slices.Clone(first)
				spoil(second)
				if !slices.Equal(first, kept) || !slices.Equal(ask(), kept) {
					t.Errorf("%q: answers share memory: %q", words, first)
				}
			}
		}
		if got := tell(f, poolOfTags()...); got != want {
			t.Errorf("%q: changed by what was handed out:\n%s", words, got)
		}
	}
}

// lies tells where a text begins and ends in memory.
func lies(s string) [2]uintptr {
	from := uintptr(unsafe.Pointer(unsafe.StringData(s)))
	return [2]uintptr{from, from + uintptr(len(s))}
}

// areApart holds that no two of all share memory.
func areApart(t *testing.T, all []string) {
	t.Helper()
	for i, s := range all {
		for _, other := range all[:i] {
			a, b := lies(s), lies(other)
			if a[0] < b[1] && b[0] < a[1] {
				t.Errorf("%q and %q share memory", s, other)
			}
		}
	}
}

// Rule 3: what is answered is a piece neither of what was handed in nor of
// another answer, texts too.
func TestTextsAreNewMemory(t *testing.T) {
	f := New()
	var all []string
	for _, row := range [][2]string{{"en", ""}, {"en-GB", "en"}, {"de", "zz"}, {"fr", "en-GB"}, {"root", ""}, {"en-GB", "en"}} {
		locale, parent := strings.Clone(row[0]), strings.Clone(row[1])
		f.Set(locale, parent)
		all = append(all, locale, parent)
	}
	for _, g := range []*Forest{f, f.Copy()} {
		for _, locale := range []string{"en", "en-GB", "de", "fr", "root", "it"} {
			locale = strings.Clone(locale)
			next, _, _ := g.Next(locale)
			chain, _ := g.Chain(locale)
			bad, _ := g.Check()
			all = slices.Concat(all, []string{locale, next, bad}, chain, g.Under(locale), g.All())
		}
	}
	areApart(t, all)
}

// Rule 3: what was handed in isn't kept: a forest stays what it is if the
// memory of a tag that it was told is another's later.
func TestTagsAreNotKept(t *testing.T) {
	f := New()
	memory := []byte("en-GBen")
	text := unsafe.String(&memory[0], len(memory))
	if f.Set(text[:5], text[5:]) != api.OK || f.Set("en", "") != api.OK {
		t.Fatal("P11.1")
	}
	want := tell(f, "en", "en-GB", "fr-FR", "fr")
	copy(memory, "fr-FRfr")
	if got := tell(f, "en", "en-GB", "fr-FR", "fr"); got != want {
		t.Errorf("P11.1:\n%swant\n%s", got, want)
	}
}

// P11.2: a copy is like its original, and each goes its own way behind the
// other's back.
func TestCopy(t *testing.T) {
	changes := []func(f *Forest){
		func(f *Forest) { f.Set("en", "de") },
		func(f *Forest) { f.Set("it", "") },
		func(f *Forest) { f.Drop("root") },
		func(f *Forest) { f.Drop("en") },
		func(f *Forest) {
			for _, locale := range f.All() {
				f.Drop(locale)
			}
		},
	}
	for _, words := range knownForests() {
		for _, change := range changes {
			f := forest(t, words)
			want := tell(f, poolOfTags()...)
			alone := forest(t, words)
			change(alone)
			changed := tell(alone, poolOfTags()...)
			first, second := f.Copy(), f.Copy()
			third := first.Copy()
			if tell(first, poolOfTags()...) != want || tell(third, poolOfTags()...) != want {
				t.Errorf("P11.2: %q: a copy is otherwise", words)
			}
			change(f)
			change(third)
			if tell(first, poolOfTags()...) != want || tell(second, poolOfTags()...) != want {
				t.Errorf("P11.2: %q: a copy is changed by its original, or by its own copy", words)
			}
			change(second)
			for _, g := range []*Forest{f, second, third} {
				if tell(g, poolOfTags()...) != changed {
					t.Errorf("P11.2: %q: changed otherwise than alone", words)
				}
			}
			if tell(first, poolOfTags()...) != want {
				t.Errorf("P11.2: %q: a copy is changed by another", words)
			}
		}
	}
}

// Rule 4: beside an error every other result is zero, and a call that errs has
// changed nothing; nor has one that asks.
func TestErrorsChangeNothing(t *testing.T) {
	for _, words := range knownForests() {
		f := forest(t, words)
		want := tell(f, poolOfTags()...)
		for _, locale := range poolOfTags() {
			next, ok, err := f.Next(locale)
			if err != api.OK && (next != "" || ok) || ok != (next != "") {
				t.Errorf("P11.2: Next(%q) of %q: %q, %v, %v", locale, words, next, ok, err)
			}
			chain, err := f.Chain(locale)
			if (err == api.OK) != (len(chain) > 0) {
				t.Errorf("P11.2: Chain(%q) of %q: %q, %v", locale, words, chain, err)
			}
			if !f.Has(locale) && f.Drop(locale) != api.ErrNone {
				t.Errorf("P11.1: Drop(%q) of %q", locale, words)
			}
			f.Set(locale, "EN")
			f.Set("EN", locale)
		}
		if got := tell(f, poolOfTags()...); got != want {
			t.Errorf("P11.1: %q is changed:\n%s", words, got)
		}
	}
}

// Rule 6: an answer hangs on what a forest was told alone: not on the order in
// which locales came, nor on those that went, nor on who asks at once.
func TestAskedAtOnce(t *testing.T) {
	for _, words := range knownForests() {
		f := forest(t, words)
		want := tell(f, poolOfTags()...)
		fields := strings.Fields(words)
		slices.Reverse(fields)
		other := forest(t, "it:de fr-FR "+strings.Join(fields, " "))
		other.Drop("it")
		other.Drop("fr-FR")
		if got := tell(other, poolOfTags()...); got != want {
			t.Errorf("%q: otherwise in another order:\n%s", words, got)
		}
		answers := make([]string, 8)
		var wait sync.WaitGroup
		for i := range answers {
			wait.Go(func() { answers[i] = tell(f.Copy(), poolOfTags()...) + tell(f, poolOfTags()...) })
		}
		wait.Wait()
		for _, got := range answers {
			if got != want+want {
				t.Errorf("%q: otherwise when asked at once:\n%s", words, got)
			}
		}
	}
}

// areLeft holds that pairs can be left at any point, and gone through again,
// also while they are gone through.
func areLeft[T cmp.Ordered](t *testing.T, all iter.Seq2[string, T], want []string) {
	t.Helper()
	keys := func() []string {
		var list []string
		for one := range all {
			list = append(list, one)
		}
		return list
	}
	for most := range len(want) + 1 {
		var got []string
		for one := range all {
			if len(got) == most {
				break
			}
			got = append(got, one)
			if inner := keys(); !slices.Equal(inner, want) {
				t.Fatalf("%q within", inner)
			}
		}
		if !slices.Equal(got, want[:most]) {
			t.Errorf("%q, want %q", got, want[:most])
		}
	}
}

// Rule 7: chains by their iterator; an error comes last, with nobody.
func TestStepsByIterator(t *testing.T) {
	f := forest(t, "en-GB en root aa:bb bb:zz cc:cc")
	areLeft(t, f.steps("en-GB"), []string{"en-GB", "en", "root"})
	areLeft(t, f.steps("root"), []string{"root"})
	areLeft(t, f.steps("aa"), []string{"aa", "bb", ""})
	areLeft(t, f.steps("cc"), []string{"cc", ""})
	areLeft(t, f.steps("it"), []string{""})
	numbered := func(tags iter.Seq[string]) iter.Seq2[string, int] {
		return func(yield func(string, int) bool) {
			for one := range tags {
				if !yield(one, 0) {
					return
				}
			}
		}
	}
	areLeft(t, numbered(above("zh-Hant-TW-1abc")), []string{"zh-Hant-TW", "zh-Hant", "zh", "root"})
	areLeft(t, numbered(above("en")), []string{"root"})
	areLeft(t, numbered(above("root")), nil)
	areLeft(t, numbered(above("EN")), nil)
	all := f.steps("en-GB") // it gives what is there when it is gone through
	f.Drop("en")
	areLeft(t, all, []string{"en-GB", "root"})
}
