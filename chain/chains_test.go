package chain

import (
	"slices"
	"strings"
	"testing"

	"hornbook/api"
)

// chained is a locale's chain, as words, and its error.
type chained struct {
	locale, chain string
	err           api.Errno
}

// areChained holds the chains of a forest.
func areChained(t *testing.T, words string, want ...chained) {
	t.Helper()
	f := forest(t, words)
	for _, c := range want {
		chain, err := f.Chain(c.locale)
		if got := strings.Join(chain, " "); got != c.chain || err != c.err {
			t.Errorf("P11.2: Chain(%q) of %q: %q, %v, want %q, %v", c.locale, words, got, err, c.chain, c.err)
		}
	}
}

// P11.2: chains by tags alone: those that aren't there are left out.
func TestChainsByTags(t *testing.T) {
	areChained(t, "en-GB root", chained{"en-GB", "en-GB root", 0}, chained{"root", "root", 0}, chained{"en", "", api.ErrNone})
	areChained(t, "en-GB en root", chained{"en-GB", "en-GB en root", 0}, chained{"en", "en root", 0})
	areChained(t, "en-GB en", chained{"en-GB", "en-GB en", 0}, chained{"en", "en", 0}, chained{"root", "", api.ErrNone})
	areChained(t, "en-GB", chained{"en-GB", "en-GB", 0})
	areChained(t, "sl-rozaj-biske-1994 sl-rozaj sl root",
		chained{"sl-rozaj-biske-1994", "sl-rozaj-biske-1994 sl-rozaj sl root", 0}, chained{"sl-rozaj-biske", "", api.ErrNone})
	areChained(t, "zh-Hant-TW zh-Hant zh-TW zh", chained{"zh-Hant-TW", "zh-Hant-TW zh-Hant zh", 0}, chained{"zh-TW", "zh-TW zh", 0})
	areChained(t, "en-GB eng gb-EN", chained{"en-GB", "en-GB", 0}, chained{"eng", "eng", 0}) // nobody by a part of a subtag
}

// P11.2: chains by named parents alone, and by both: a named parent is taken
// whatever the tag would lead to.
func TestChainsByNames(t *testing.T) {
	areChained(t, "aa:bb bb:cc cc", chained{"aa", "aa bb cc", 0}, chained{"bb", "bb cc", 0}, chained{"cc", "cc", 0})
	areChained(t, "en-GB:de en:fr de fr root", chained{"en-GB", "en-GB de root", 0}, chained{"en", "en fr root", 0})
	areChained(t, "de-AT:en-GB de en-GB en:aa-AA aa-AA aa root", chained{"de-AT", "de-AT en-GB en aa-AA aa root", 0})
	areChained(t, "en:en-GB en-GB:root root", chained{"en", "en en-GB root", 0}, chained{"en-GB", "en-GB root", 0}) // down the tags
	areChained(t, "en-GB:root en:root root:aa aa:bb bb:cc cc:dd dd", chained{"root", "", api.ErrCycle}, chained{"en", "", api.ErrCycle})
}

// P11.2: named parents that are there and that aren't, that go and come back.
func TestNamedParents(t *testing.T) {
	f := forest(t, "en-GB:de en root")
	next := func(locale, want string, wantErr api.Errno) {
		t.Helper()
		got, ok, err := f.Next(locale)
		if got != want || ok != (want != "") || err != wantErr {
			t.Errorf("P11.2: Next(%q): %q, %v, %v", locale, got, ok, err)
		}
	}
	next("en-GB", "", api.ErrParent) // en is there, but isn't what was named
	f.Set("de", "")
	next("en-GB", "de", 0)
	f.Set("de", "fr")
	next("en-GB", "de", 0) // that the next one errs is another's business
	next("de", "", api.ErrParent)
	f.Drop("de")
	next("en-GB", "", api.ErrParent)
	next("de", "", api.ErrNone)
	f.Set("de", "")
	next("en-GB", "de", 0)
	next("de", "root", 0) // the parent that it had is forgotten
	f.Drop("en-GB")
	f.Set("en-GB", "")
	next("en-GB", "en", 0)
	f.Set("en-GB", "en-GB")
	next("en-GB", "en-GB", 0)
}

// P11.2: root there, not there, and with a parent.
func TestRoot(t *testing.T) {
	areChained(t, "root", chained{"root", "root", 0})
	areChained(t, "en de:root", chained{"en", "en", 0}, chained{"de", "", api.ErrParent}, chained{"root", "", api.ErrNone})
	areChained(t, "root:zz en", chained{"root", "", api.ErrParent}, chained{"en", "", api.ErrParent})
	areChained(t, "root:root en", chained{"root", "", api.ErrCycle}, chained{"en", "", api.ErrCycle})
	areChained(t, "root:en en", chained{"root", "", api.ErrCycle}, chained{"en", "", api.ErrCycle})
	areChained(t, "root:en en:zz", chained{"root", "", api.ErrParent}, chained{"en", "", api.ErrParent})
	f := forest(t, "root:en en")
	for _, c := range [][2]string{{"root", "en"}, {"en", "root"}} {
		if next, ok, err := f.Next(c[0]); next != c[1] || !ok || err != api.OK {
			t.Errorf("P11.2: Next(%q): %q, %v, %v", c[0], next, ok, err)
		}
	}
	if next, ok, err := forest(t, "root en").Next("root"); next != "" || ok || err != api.OK {
		t.Errorf("P11.2: Next of root: %q, %v, %v", next, ok, err)
	}
}

// P11.2: circles of one, of two, of more, and locales that lead into one.
func TestCircles(t *testing.T) {
	areChained(t, "aa:aa", chained{"aa", "", api.ErrCycle})
	areChained(t, "aa:bb bb:aa", chained{"aa", "", api.ErrCycle}, chained{"bb", "", api.ErrCycle})
	areChained(t, "en:en-GB en-GB", chained{"en", "", api.ErrCycle}, chained{"en-GB", "", api.ErrCycle})
	areChained(t, "aa:bb bb:cc cc:aa root", chained{"aa", "", api.ErrCycle}, chained{"bb", "", api.ErrCycle}, chained{"cc", "", api.ErrCycle}, chained{"root", "root", 0})
	areChained(t, "aa:bb bb:cc cc:bb dd:aa ee", // the circle has neither aa nor dd
		chained{"aa", "", api.ErrCycle}, chained{"dd", "", api.ErrCycle}, chained{"ee", "ee", 0})
	areChained(t, "aa-AA aa:aa", chained{"aa-AA", "", api.ErrCycle})
}

// row tells words of n locales, of which each names the one behind it, and the
// last one what it is told.
func row(n int, last string) string {
	var words []string
	for i := range n - 1 {
		words = append(words, name(i)+":"+name(i+1))
	}
	return strings.Join(append(words, name(n-1)+":"+last), " ")
}

func name(i int) string { return strings.Repeat(string(rune('a'+i)), 2) }

// P11.2: as many as may be, and one more, by names, by tags, by both.
func TestLongest(t *testing.T) {
	areChained(t, row(api.MaxChain, ""), chained{"aa", "aa bb cc dd ee ff", 0})
	areChained(t, row(api.MaxChain+1, ""), chained{"aa", "", api.ErrChain}, chained{"bb", "bb cc dd ee ff gg", 0})
	areChained(t, row(api.MaxChain-1, "")+" root", chained{"aa", "aa bb cc dd ee root", 0})
	areChained(t, row(api.MaxChain, "")+" root", chained{"aa", "", api.ErrChain}, chained{"bb", "bb cc dd ee ff root", 0})
	areChained(t, row(20, ""), chained{"aa", "", api.ErrChain}, chained{name(13), "", api.ErrChain}, chained{name(14), "oo pp qq rr ss tt", 0})
	tags := "zh-Hant-TW-1abc-abcde zh-Hant-TW-1abc zh-Hant-TW zh-Hant zh root"
	areChained(t, tags, chained{"zh-Hant-TW-1abc-abcde", tags, 0})
	areChained(t, tags+" zh-Hant-TW-1abc-abcde-00000", chained{"zh-Hant-TW-1abc-abcde-00000", "", api.ErrChain}, chained{"zh-Hant-TW-1abc-abcde", tags, 0})
	areChained(t, tags+" zh-Hant-TW-1abc-00000", chained{"zh-Hant-TW-1abc-00000", strings.Replace(tags, "abcde", "00000", 1), 0})
}

// P11.2: of two errors the one that is met first, a locale that comes twice
// ahead of one too many.
func TestWhichError(t *testing.T) {
	areChained(t, row(api.MaxChain, "aa"), chained{"aa", "", api.ErrCycle}, chained{"dd", "", api.ErrCycle})       // the seventh is both
	areChained(t, row(api.MaxChain, "ff"), chained{"aa", "", api.ErrCycle}, chained{"ff", "", api.ErrCycle})       // the seventh is both
	areChained(t, row(api.MaxChain+1, "aa"), chained{"aa", "", api.ErrChain}, chained{"gg", "", api.ErrChain})     // the eighth would come twice
	areChained(t, row(api.MaxChain+1, "gg"), chained{"aa", "", api.ErrChain}, chained{"bb", "", api.ErrCycle})     // likewise of aa
	areChained(t, row(api.MaxChain, "zz"), chained{"aa", "", api.ErrParent})                                       // the seventh isn't there
	areChained(t, row(api.MaxChain+1, "zz"), chained{"aa", "", api.ErrChain}, chained{"bb", "", api.ErrParent})    // nobody asks the seventh
	areChained(t, row(api.MaxChain+5, "zz"), chained{"aa", "", api.ErrChain}, chained{name(5), "", api.ErrParent}) // nor those behind it
	areChained(t, "aa:bb bb:bb cc:zz", chained{"aa", "", api.ErrCycle}, chained{"cc", "", api.ErrParent}, chained{"zz", "", api.ErrNone})
}

// P11.2: Check tells the first one, byte by byte, and its own error.
func TestCheck(t *testing.T) {
	for words, want := range map[string]chained{
		"":                                     {},
		"root":                                 {},
		"en de:en fr-FR root":                  {},
		row(api.MaxChain, ""):                  {},
		"zz:aa":                                {locale: "zz", err: api.ErrParent},
		"zz:yy yy:zz bb:aa root":               {locale: "bb", err: api.ErrParent},
		"zz:aa bb:bb cc:yy":                    {locale: "bb", err: api.ErrCycle},
		"zz:aa yy:yy root":                     {locale: "yy", err: api.ErrCycle},
		"en-GB en:zz root":                     {locale: "en", err: api.ErrParent},
		"aa-AA:aa aa:zz ab:ab":                 {locale: "aa", err: api.ErrParent},
		"eng:eng en-GB:zz en":                  {locale: "en-GB", err: api.ErrParent},
		"aa root:zz":                           {locale: "aa", err: api.ErrParent}, // its own fault it isn't
		"root:root":                            {locale: "root", err: api.ErrCycle},
		row(api.MaxChain+1, ""):                {locale: "aa", err: api.ErrChain},
		row(api.MaxChain+1, "zz"):              {locale: "aa", err: api.ErrChain},
		row(api.MaxChain+1, "") + " aa aaa:zz": {locale: "aaa", err: api.ErrParent},
	} {
		if locale, err := forest(t, words).Check(); locale != want.locale || err != want.err {
			t.Errorf("P11.2: Check of %q: %q, %v", words, locale, err)
		}
	}
}

// P11.2: Under of one that is there, of one that isn't, of one in a circle, and
// of one with others whose chains err.
func TestUnder(t *testing.T) {
	for _, c := range []struct{ words, locale, want string }{
		{"en en-GB en-GB-oxendict fr:en-GB de root", "en", "en-GB en-GB-oxendict fr"},
		{"en en-GB en-GB-oxendict fr:en-GB de root", "en-GB", "en-GB-oxendict fr"},
		{"en en-GB en-GB-oxendict fr:en-GB de root", "root", "de en en-GB en-GB-oxendict fr"},
		{"en en-GB en-GB-oxendict fr:en-GB de root", "fr", ""},
		{"en en-GB en-GB-oxendict fr:en-GB de root", "it", ""},
		{"en en-GB en-GB-oxendict fr:en-GB de root", "", ""},
		{"en en-GB en-GB-oxendict fr:en-GB de root", "EN", ""},
		{"en-GB fr-FR:en", "en", ""}, // it isn't there
		{"en-GB fr-FR:en", "root", ""},
		{"aa:aa bb:aa", "aa", ""},
		{"aa:bb bb:aa cc:aa dd", "aa", ""},
		{"aa:bb bb:aa cc:aa dd", "bb", ""},
		{"aa:bb bb:zz cc:bb", "bb", ""},
		{row(7, ""), "gg", "bb cc dd ee ff"},
		{row(7, ""), "bb", ""}, // aa's chain has it, and errs
		{row(7, ""), "ff", "bb cc dd ee"},
		{"zz:mm aa:mm mm-MM mm", "mm", "aa mm-MM zz"},
		{"aa-AA:root root aa", "aa", ""}, // another parent was named
	} {
		if got := strings.Join(forest(t, c.words).Under(c.locale), " "); got != c.want {
			t.Errorf("P11.2: Under(%q) of %q: %q, want %q", c.locale, c.words, got, c.want)
		}
	}
}

// endsFor tells in how many locales one comes to an end by Next alone, 0 if it
// doesn't within far more than there may be.
func endsFor(f *Forest, locale string) int {
	for n := 1; n < 100; n++ {
		next, more, err := f.Next(locale)
		if err != api.OK {
			return 0
		}
		if !more {
			return n
		}
		locale = next
	}
	return 0
}

// P11.3: where Check is OK everybody's chain ends; else somebody's doesn't, or
// not soon enough.
func TestChainsEnd(t *testing.T) {
	checks := map[api.Errno]int{}
	isSo := func(f *Forest, d defined) {
		_, err := f.Check()
		checks[err]++
		bad := slices.IndexFunc(f.All(), func(locale string) bool { n := endsFor(f, locale); return n < 1 || n > api.MaxChain })
		if (err == api.OK) != (bad < 0) {
			t.Fatalf("P11.3: %q: %v, but %d of %q", d, err, bad, f.All())
		}
		for _, locale := range f.All() {
			if chain, chainErr := f.Chain(locale); err == api.OK && (chainErr != api.OK || len(chain) != endsFor(f, locale)) {
				t.Fatalf("P11.3: %q: %q, %v", d, chain, chainErr)
			}
		}
	}
	everyForest([]string{"root", "en", "en-GB", "de"}, []string{"", "root", "en", "en-GB", "de", "zz"}, isSo)
	everyForest([]string{"aa", "bb", "cc", "dd", "ee", "ff", "gg"}, []string{"", "cc", "ff"}, isSo)
	for n := 1; n <= 10; n++ {
		for last := range n {
			isSo(forest(t, row(n, name(last))), nil)
		}
		isSo(forest(t, row(n, "")), nil)
		isSo(forest(t, row(n, "")+" root"), nil)
		isSo(forest(t, row(n, "zz")), nil)
	}
	for _, err := range []api.Errno{api.OK, api.ErrParent, api.ErrCycle, api.ErrChain} {
		if checks[err] < 3 {
			t.Errorf("%v came %d times", err, checks[err])
		}
	}
}
