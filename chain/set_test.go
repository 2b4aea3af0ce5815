package chain

import (
	"fmt"
	"slices"
	"strings"
	"testing"

	"hornbook/api"
)

// forest makes a forest of words: a locale, and, behind a colon, its parent.
func forest(t *testing.T, words string) *Forest {
	t.Helper()
	f := New()
	for _, word := range strings.Fields(words) {
		locale, parent, _ := strings.Cut(word, ":")
		if err := f.Set(locale, parent); err != api.OK {
			t.Fatalf("P11.1: %q: %v", word, err)
		}
	}
	return f
}

// tell is all that f tells of some tags, a line for each of them.
func tell(f *Forest, tags ...string) string {
	var b strings.Builder
	bad, err := f.Check()
	fmt.Fprintf(&b, "%q check %q %d\n", f.All(), bad, int(err))
	for _, locale := range tags {
		next, ok, err := f.Next(locale)
		chain, chainErr := f.Chain(locale)
		fmt.Fprintf(&b, "%q %v next %q %v %d chain %q %d under %q\n", locale, f.Has(locale), next, ok, int(err), chain, int(chainErr), f.Under(locale))
	}
	return b.String()
}

// P11.1: a new forest has nobody; nor has one that nobody made.
func TestNobody(t *testing.T) {
	for _, f := range []*Forest{New(), {}, New().Copy(), (&Forest{}).Copy()} {
		for _, locale := range poolOfTags() {
			next, ok, err := f.Next(locale)
			chain, chainErr := f.Chain(locale)
			if f.Has(locale) || next != "" || ok || err != api.ErrNone || len(chain) > 0 || chainErr != api.ErrNone || len(f.Under(locale)) > 0 || f.Drop(locale) != api.ErrNone {
				t.Errorf("P11.1, P11.2: %q: %s", locale, tell(f, locale))
			}
		}
		if bad, err := f.Check(); bad != "" || err != api.OK || len(f.All()) > 0 {
			t.Errorf("P11.2: %q, %v, %q", bad, err, f.All())
		}
		if f.Set("en", "") != api.OK || !f.Has("en") || f.Drop("en") != api.OK || f.Has("en") {
			t.Error("P11.1: en")
		}
	}
}

// P11.1: what is no canonical tag is refused, as a locale and as a parent, and
// nothing is changed by that.
func TestNoTags(t *testing.T) {
	wrong := []string{
		" ", "-", "x", "e", "engl", "EN", "En", "eN", "en_GB", "en-gb", "en-Gb", "EN-GB", "en-latn", "en-LATN", "en-Latn-gb", "en-OXENDICT", "de-1996-1996",
		"Root", "ROOT", "root-GB", "en-root", "-en", "en-", "en--GB", "en ", " en", "en\n", "en\x00", "é", "\xff", "en-GB-Latn", "e1", "en-1", "en-12", "en-abcdefghi",
		"en-00000000-00000001-00000002-00000003-00000004", strings.Repeat("en-", 1000), strings.Repeat("a", 100000),
	}
	f := forest(t, "en:de de root")
	want := tell(f, "en", "de", "root", "fr")
	for _, s := range wrong {
		for _, row := range [][2]string{{s, ""}, {s, "en"}, {s, "zz"}, {s, s}, {"en", s}, {"root", s}, {"fr", s}} {
			if err := f.Set(row[0], row[1]); err != api.ErrTag {
				t.Errorf("P11.1: Set(%.60q) = %v", row, err)
			}
		}
		if err := f.Drop(s); err != api.ErrNone || f.Has(s) || len(f.Under(s)) > 0 {
			t.Errorf("P11.1: %.60q is there: %v", s, err)
		}
		if got := tell(f, "en", "de", "root", "fr"); got != want {
			t.Fatalf("P11.1: %.60q has changed it:\n%s", s, got)
		}
	}
	for _, parent := range []string{"", "en", "zz"} { // "" is a parent, but no locale
		if err := f.Set("", parent); err != api.ErrTag || f.Has("") {
			t.Errorf("P11.1: Set(\"\", %q) = %v", parent, err)
		}
	}
}

// P11.1: tags of all kinds, as locales and as parents; the longest tag too.
func TestTags(t *testing.T) {
	longest := "en-Latn-00000000-00000001-00000002-00000"
	if len(longest) != api.MaxTag || New().Set(longest+"0", "") != api.ErrTag || New().Set("en", longest+"0") != api.ErrTag {
		t.Error("P11.1: a tag that is too long")
	}
	f := New()
	tags := []string{"root", "en", "gsw", "en-Latn", "en-GB", "es-419", "en-Latn-GB", "de-1996", "en-Latn-GB-oxendict", "sl-rozaj-biske-1994", longest}
	for i, locale := range tags {
		if err := f.Set(locale, ""); err != api.OK || !f.Has(locale) {
			t.Errorf("P11.1: %q: %v", locale, err)
		}
		if err := f.Set("fr", locale); err != api.OK {
			t.Errorf("P11.1: parent %q: %v", locale, err)
		}
		if next, ok, err := f.Next("fr"); next != locale || !ok || err != api.OK {
			t.Errorf("P11.2: parent %q: %q, %v, %v", locale, next, ok, err)
		}
		if got := f.All(); len(got) != i+2 {
			t.Errorf("P11.1: %q", got)
		}
	}
}

// P11.1: the order of All is that of bytes, whatever the order in which they
// came: `-` is ahead of digits and letters, a shorter one of one that begins
// like it.
func TestAllByteByByte(t *testing.T) {
	want := []string{"aa", "aa-001", "aa-1aaa", "aa-AA", "aa-Aaaa", "aa-aaaaa", "aaa", "ab", "en", "en-GB", "eng", "ro", "ron", "root", "zz"}
	for shift := range want {
		f := New()
		for i := range want {
			if err := f.Set(want[(i*4+shift)%len(want)], ""); err != api.OK {
				t.Fatal(err)
			}
		}
		if got := f.All(); !slices.Equal(got, want) {
			t.Errorf("P11.1: %q", got)
		}
	}
}

// P11.1: there may be any number of locales, and any number with one parent.
func TestMany(t *testing.T) {
	f := New()
	var want []string
	for i := range 26 * 26 {
		locale := string([]byte{byte('a' + i/26), byte('a' + i%26)})
		want = append(want, locale)
		if err := f.Set(locale, "root"); err != api.OK {
			t.Fatalf("P11.1: %q: %v", locale, err)
		}
	}
	if bad, err := f.Check(); bad != "aa" || err != api.ErrParent {
		t.Errorf("P11.2: %q, %v", bad, err)
	}
	f.Set("root", "")
	if bad, err := f.Check(); bad != "" || err != api.OK || !slices.Equal(f.Under("root"), want) {
		t.Errorf("P11.2: %q, %v, %q", bad, err, f.Under("root"))
	}
}

// P11.1, P11.2: locales come, come again with another parent, and go; all calls
// are asked behind each step.
func TestStepByStep(t *testing.T) {
	f := New()
	tags := []string{"en", "en-GB", "fr", "root"}
	for _, step := range []struct {
		do   func() api.Errno
		err  api.Errno
		want string
	}{
		{func() api.Errno { return f.Set("en-GB", "") }, 0, `["en-GB"] check "" 0
"en" false next "" false 240 chain [] 240 under []
"en-GB" true next "" false 0 chain ["en-GB"] 0 under []
"fr" false next "" false 240 chain [] 240 under []
"root" false next "" false 240 chain [] 240 under []
`},
		{func() api.Errno { return f.Set("root", "") }, 0, `["en-GB" "root"] check "" 0
"en" false next "" false 240 chain [] 240 under []
"en-GB" true next "root" true 0 chain ["en-GB" "root"] 0 under []
"fr" false next "" false 240 chain [] 240 under []
"root" true next "" false 0 chain ["root"] 0 under ["en-GB"]
`},
		{func() api.Errno { return f.Set("en", "fr") }, 0, `["en" "en-GB" "root"] check "en" 110
"en" true next "" false 110 chain [] 110 under []
"en-GB" true next "en" true 0 chain [] 110 under []
"fr" false next "" false 240 chain [] 240 under []
"root" true next "" false 0 chain ["root"] 0 under []
`},
		{func() api.Errno { return f.Set("fr", "en-GB") }, 0, `["en" "en-GB" "fr" "root"] check "en" 111
"en" true next "fr" true 0 chain [] 111 under []
"en-GB" true next "en" true 0 chain [] 111 under []
"fr" true next "en-GB" true 0 chain [] 111 under []
"root" true next "" false 0 chain ["root"] 0 under []
`},
		{func() api.Errno { return f.Set("en", "root") }, 0, `["en" "en-GB" "fr" "root"] check "" 0
"en" true next "root" true 0 chain ["en" "root"] 0 under ["en-GB" "fr"]
"en-GB" true next "en" true 0 chain ["en-GB" "en" "root"] 0 under ["fr"]
"fr" true next "en-GB" true 0 chain ["fr" "en-GB" "en" "root"] 0 under []
"root" true next "" false 0 chain ["root"] 0 under ["en" "en-GB" "fr"]
`},
		{func() api.Errno { return f.Set("fr", "x") }, 100, `["en" "en-GB" "fr" "root"] check "" 0
"en" true next "root" true 0 chain ["en" "root"] 0 under ["en-GB" "fr"]
"en-GB" true next "en" true 0 chain ["en-GB" "en" "root"] 0 under ["fr"]
"fr" true next "en-GB" true 0 chain ["fr" "en-GB" "en" "root"] 0 under []
"root" true next "" false 0 chain ["root"] 0 under ["en" "en-GB" "fr"]
`},
		{func() api.Errno { return f.Set("fr", "") }, 0, `["en" "en-GB" "fr" "root"] check "" 0
"en" true next "root" true 0 chain ["en" "root"] 0 under ["en-GB"]
"en-GB" true next "en" true 0 chain ["en-GB" "en" "root"] 0 under []
"fr" true next "root" true 0 chain ["fr" "root"] 0 under []
"root" true next "" false 0 chain ["root"] 0 under ["en" "en-GB" "fr"]
`},
		{func() api.Errno { return f.Drop("root") }, 0, `["en" "en-GB" "fr"] check "en" 110
"en" true next "" false 110 chain [] 110 under []
"en-GB" true next "en" true 0 chain [] 110 under []
"fr" true next "" false 0 chain ["fr"] 0 under []
"root" false next "" false 240 chain [] 240 under []
`},
		{func() api.Errno { return f.Drop("root") }, 240, `["en" "en-GB" "fr"] check "en" 110
"en" true next "" false 110 chain [] 110 under []
"en-GB" true next "en" true 0 chain [] 110 under []
"fr" true next "" false 0 chain ["fr"] 0 under []
"root" false next "" false 240 chain [] 240 under []
`},
		{func() api.Errno { return f.Drop("en") }, 0, `["en-GB" "fr"] check "" 0
"en" false next "" false 240 chain [] 240 under []
"en-GB" true next "" false 0 chain ["en-GB"] 0 under []
"fr" true next "" false 0 chain ["fr"] 0 under []
"root" false next "" false 240 chain [] 240 under []
`},
		{func() api.Errno { return f.Set("en", "") }, 0, `["en" "en-GB" "fr"] check "" 0
"en" true next "" false 0 chain ["en"] 0 under ["en-GB"]
"en-GB" true next "en" true 0 chain ["en-GB" "en"] 0 under []
"fr" true next "" false 0 chain ["fr"] 0 under []
"root" false next "" false 240 chain [] 240 under []
`},
	} {
		if err := step.do(); err != step.err {
			t.Errorf("P11.1: %v, want %v", err, step.err)
		}
		if got := tell(f, tags...); got != step.want {
			t.Errorf("P11.1, P11.2:\n%swant\n%s", got, step.want)
		}
	}
}
