package tag

import (
	"slices"
	"strings"
	"testing"

	"hornbook/api"
)

// isTag holds that s is a tag with that canonical form, and what the other
// calls tell of both.
func isTag(t *testing.T, s, canon string) {
	t.Helper()
	if got, err := Canon(s); got != canon || err != api.OK {
		t.Errorf("P9.1: Canon(%q) = %q, %v, want %q", s, got, err, canon)
	}
	if got, err := Canon(canon); got != canon || err != api.OK {
		t.Errorf("P9.1: Canon(%q) = %q, %v, want itself", canon, got, err)
	}
	if !Is(canon) || Is(s) != (s == canon) {
		t.Errorf("P9.2: Is(%q) = %v, Is(%q) = %v", canon, Is(canon), s, Is(s))
	}
}

// isNone holds that s is no tag.
func isNone(t *testing.T, s string) {
	t.Helper()
	if got, err := Canon(s); got != "" || err != api.ErrTag {
		t.Errorf("P9.1: Canon(%q) = %q, %v, want none", s, got, err)
	}
	if Is(s) || len(Parts(s)) != 0 || Parent(s) != "" {
		t.Errorf("P9.2: %q is no tag: %v, %q, %q", s, Is(s), Parts(s), Parent(s))
	}
}

// P9.1: the chapter's example.
func TestExample(t *testing.T) {
	isTag(t, "EN_latn-us", "en-Latn-US")
	if got := Parent("en-Latn-US"); got != "en-Latn" {
		t.Errorf("P9.2: %q", got)
	}
}

// P9.1: a language has 2 or 3 letters of ASCII.
func TestLanguages(t *testing.T) {
	for s, canon := range map[string]string{"en": "en", "EN": "en", "eN": "en", "az": "az", "AZ": "az", "deu": "deu", "DEU": "deu", "dEu": "deu"} {
		isTag(t, s, canon)
	}
	for _, s := range []string{
		"e", "engl", "Latn", "abcde", "abcdefgh", "e1", "1e", "12", "123", "1996", "e.", "e ", " en", "en ", "en\n", "e@", "e[", "e`", "e{",
		"é", "aé", "ü", "\xff", "a\x80", "\x00\x00", "ſs", "\u212Ak", "ｅｎ", "а", "аб",
	} {
		isNone(t, s)
		isNone(t, s+"-US")
	}
}

// P9.1: script, region and variants, each there or not, in that order.
func TestEachThereOrNot(t *testing.T) {
	for _, language := range [][2]string{{"SR", "sr"}, {"gsw", "gsw"}} {
		for _, script := range [][2]string{{"", ""}, {"-latn", "-Latn"}, {"_CYRL", "-Cyrl"}, {"_hAnT", "-Hant"}} {
			for _, region := range [][2]string{{"", ""}, {"_rs", "-RS"}, {"-Me", "-ME"}, {"-419", "-419"}, {"_001", "-001"}} {
				for _, variants := range [][2]string{{"", ""}, {"_EKAVSK", "-ekavsk"}, {"-1996", "-1996"}, {"-1994_Rozaj-BISKE", "-1994-rozaj-biske"}, {"_9ABC-9abcd", "-9abc-9abcd"}} {
					isTag(t, language[0]+script[0]+region[0]+variants[0], language[1]+script[1]+region[1]+variants[1])
				}
			}
		}
	}
}

// P9.1: in no other order, and but the variants only one of each.
func TestOtherOrders(t *testing.T) {
	for _, s := range []string{
		"en-US-Latn", "en-posix-Latn", "en-posix-US", "en-US-posix-Latn", "en-Latn-posix-US", "en-1996-US", "en-1996-Latn", "en-posix-419",
		"en-Latn-Latn", "en-Latn-Cyrl", "en-US-US", "en-US-GB", "en-US-419", "en-419-US", "en-419-001", "en-419-419",
		"Latn-en", "Latn-US-en", "posix-en", "419-en", "1996-en", "en-eng", "eng-eng", "en-deu-US", "en-Latn-deu", "en-US-en-US", "en-posix-en",
	} {
		isNone(t, s)
	}
	isTag(t, "en-en", "en-EN")
	isTag(t, "US-Latn-en", "us-Latn-EN")
}

// P9.1: a region is 2 letters or 3 digits.
func TestRegions(t *testing.T) {
	isTag(t, "es-es", "es-ES")
	isTag(t, "es-Az", "es-AZ")
	isTag(t, "es-000", "es-000")
	isTag(t, "es-999", "es-999")
	for _, s := range []string{"es-e", "es-4", "es-41", "es-e1", "es-1e", "es-abc", "es-4a9", "es-41a", "es-a19", "es-4-1-9", "es-4.9", "es-é", "es-a\x80"} {
		isNone(t, s)
	}
}

// P9.1: a script is 4 letters; one more is a variant, a digit in it a variant
// or none.
func TestScripts(t *testing.T) {
	isTag(t, "zh-HANT", "zh-Hant")
	isTag(t, "zh-azAZ", "zh-Azaz")
	isTag(t, "zh-HANTS", "zh-hants")
	for _, s := range []string{"zh-han", "zh-han1", "zh-h1nt", "zh-ha.t", "zh-hané", "zh-é123", "zh-han\xff"} {
		isNone(t, s)
	}
	isTag(t, "zh-1HAN", "zh-1han")
}

// P9.1: variants have 5 to 8 letters or digits, or a digit and 3 of them.
func TestVariants(t *testing.T) {
	for s, canon := range map[string]string{
		"abcde": "abcde", "ABCDEFGH": "abcdefgh", "12345": "12345", "12345678": "12345678", "a1B2c": "a1b2c", "1aBCde": "1abcde", "zyxwvu9": "zyxwvu9",
		"1996": "1996", "1abc": "1abc", "0A9Z": "0a9z", "9000": "9000",
	} {
		isTag(t, "de-"+s, "de-"+canon)
		isTag(t, "de-DE_"+s, "de-DE-"+canon)
		isTag(t, "de-rozaj-"+s, "de-rozaj-"+canon)
	}
	for _, s := range []string{"a123", "ab12", "abc1", "199", "1a", "1ab", "abcdefghi", "123456789", "1abcdefgh", "abc.e", "abcd_", "1ab.", "abcdé", "1ab\x80", ".996"} {
		isNone(t, "de-DE-"+s)
		isNone(t, "de-rozaj-"+s)
	}
	isNone(t, "de-DE-abcd")
	isNone(t, "de-rozaj-abcd")
}

// P9.1: no variant twice, in whatever case, side by side or not.
func TestVariantTwice(t *testing.T) {
	for _, s := range []string{
		"en-posix-posix", "en-posix-POSIX", "en-US-posiX_Posix", "de-1996-1996", "de-1ABC-1abc", "de-Latn-DE-1996-rozaj-1996", "de-rozaj-1996-biske-ROZAJ",
	} {
		isNone(t, s)
	}
	isTag(t, "de-posix-posix1", "de-posix-posix1")
	isTag(t, "de-posixa-posix", "de-posixa-posix")
	isTag(t, "de-19961-1996", "de-19961-1996")
}

// P9.1, P9.2: root stands by itself, in any case.
func TestRoot(t *testing.T) {
	for _, s := range []string{"root", "ROOT", "Root", "rOoT", "rooT"} {
		isTag(t, s, "root")
	}
	for _, s := range []string{"root-US", "root-Latn", "root-posix", "root-root", "ROOT_1996", "root-", "root_", "-root", "_root", "roots", "rooot", "r0ot", "root ", " root", "root\x00", "röot", "roοt"} {
		isNone(t, s)
	}
	isTag(t, "roo", "roo")
	isTag(t, "roo-root", "roo-Root")
	// Behind a language its four letters are a script like any.
	isTag(t, "en-root", "en-Root")
	isTag(t, "en_ROOT-us", "en-Root-US")
	isNone(t, "en-US-root")
	isNone(t, "en-posix-root")
	if Parent("root") != "" || !slices.Equal(Parts("root"), []string{"root"}) || Parent("ROOT") != "" || len(Parts("ROOT")) != 0 {
		t.Errorf("P9.2: root: %q, %q", Parent("root"), Parts("root"))
	}
	if got := Parent("en-Root"); got != "en" {
		t.Errorf("P9.2: %q", got)
	}
}

// P9.1: `-` or `_` between, one of them.
func TestBetween(t *testing.T) {
	for _, a := range []string{"-", "_"} {
		for _, b := range []string{"-", "_"} {
			for _, c := range []string{"-", "_"} {
				isTag(t, "sl"+a+"latn"+b+"si"+c+"rozaj", "sl-Latn-SI-rozaj")
			}
		}
	}
	for _, between := range []string{"", " ", ".", "/", "+", "--", "__", "-_", "_-", "\u2010", "\x00", " -"} {
		isNone(t, "sl"+between+"Latn")
		isNone(t, "sl-Latn-SI"+between+"rozaj-biske1994")
	}
}

// P9.1: no subtag is empty.
func TestEmptySubtags(t *testing.T) {
	for _, s := range []string{"", "-", "_", "--", "-_-", "-en", "_en", "en-", "en_", "en--US", "en-_US", "en__US", "en-US-", "en-US-posix_", "en-US--posix", "-en-US", "--en", "en--"} {
		isNone(t, s)
	}
}

// P9.1: at most MaxTag bytes in all.
func TestLongest(t *testing.T) {
	const ahead = "de_Latn-DE-abcdefgh-bcdefghi-" // 29 bytes
	isTag(t, ahead+"CDEFG-12345", "de-Latn-DE-abcdefgh-bcdefghi-cdefg-12345")
	isTag(t, ahead+"CDEFG-1234", "de-Latn-DE-abcdefgh-bcdefghi-cdefg-1234")
	isNone(t, ahead+"CDEFG-123456")
	isNone(t, ahead+"cdefgh-12345")
	if len(ahead+"CDEFG-12345") != api.MaxTag {
		t.Error("the example isn't at the limit")
	}
	isNone(t, "de"+strings.Repeat("-1996", 100))
	isNone(t, strings.Repeat("en-US-", 1<<20))
	isNone(t, strings.Repeat("a", 1<<24))
}

// P9.2: what isn't canonical has no parts and no parent, though it is a tag.
func TestNotCanonical(t *testing.T) {
	for _, s := range []string{"EN", "En", "en_US", "en-us", "en-Us", "en-latn", "en-LATN", "en-Latn_US", "en-POSIX", "en-US-Posix", "de-1ABC", "ROOT", "Root"} {
		if _, err := Canon(s); err != api.OK {
			t.Fatalf("%q is no tag", s)
		}
		if Is(s) || len(Parts(s)) != 0 || Parent(s) != "" {
			t.Errorf("P9.2: %q: %v, %q, %q", s, Is(s), Parts(s), Parent(s))
		}
	}
}

// P9.2: parts and parents of canonical tags.
func TestPartsAndParents(t *testing.T) {
	for _, c := range []struct {
		tag, parent string
		parts       []string
	}{
		{"root", "", []string{"root"}},
		{"en", "root", []string{"en"}},
		{"deu", "root", []string{"deu"}},
		{"en-US", "en", []string{"en", "US"}},
		{"es-419", "es", []string{"es", "419"}},
		{"zh-Hant", "zh", []string{"zh", "Hant"}},
		{"de-1996", "de", []string{"de", "1996"}},
		{"zh-Hant-TW", "zh-Hant", []string{"zh", "Hant", "TW"}},
		{"en-US-posix", "en-US", []string{"en", "US", "posix"}},
		{"sl-rozaj-biske-1994", "sl-rozaj-biske", []string{"sl", "rozaj", "biske", "1994"}},
	} {
		if !Is(c.tag) || Parent(c.tag) != c.parent || !slices.Equal(Parts(c.tag), c.parts) {
			t.Errorf("P9.2: %q: %v, %q, %q", c.tag, Is(c.tag), Parent(c.tag), Parts(c.tag))
		}
	}
}

// P9.3: each tag leads to root, one subtag fewer each time.
func TestAllLeadToRoot(t *testing.T) {
	for _, s := range []string{
		"root", "en", "DEU", "en-us", "es-419", "zh_hant_tw", "en-Latn-US-posix", "sl-rozaj-biske-1994", "de-1901-1996", "en-Root-ro-rootr",
		"de_Latn-DE-abcdefgh-bcdefghi-CDEFG-12345", "aa-1bbb-1ccc-1ddd-1eee-1fff-1ggg-1hhhh",
	} {
		canon, err := Canon(s)
		if err != api.OK {
			t.Fatalf("%q is no tag", s)
		}
		parts := Parts(canon)
		for at := canon; at != "root"; {
			next := Parent(at)
			if !Is(next) {
				t.Fatalf("P9.3: %q leads to %q", at, next)
			}
			parts = parts[:len(parts)-1]
			if len(parts) > 0 && !slices.Equal(Parts(next), parts) || len(parts) == 0 && next != "root" {
				t.Fatalf("P9.3: %q leads to %q", at, next)
			}
			at = next
		}
	}
}
