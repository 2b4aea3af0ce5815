package tag

import (
	"math/rand"
	"regexp"
	"slices"
	"strings"
	"testing"

	"hornbook/api"
)

// tagged is the chapter's form of a tag, but for root, for its length and for
// variants that stand twice.
var tagged = regexp.MustCompile(`\A([A-Za-z]{2,3})(?:[-_]([A-Za-z]{4}))?(?:[-_]([A-Za-z]{2}|[0-9]{3}))?((?:[-_](?:[A-Za-z0-9]{5,8}|[0-9][A-Za-z0-9]{3}))*)\z`)

// defined tells the canonical tag of s by the chapter's words, "" if s is no
// tag.
func defined(s string) string {
	switch s {
	case "root", "roOt", "rOot", "rOOt", "rooT", "roOT", "rOoT", "rOOT", "Root", "RoOt", "ROot", "ROOt", "RooT", "RoOT", "ROoT", "ROOT":
		return "root"
	}
	m := tagged.FindStringSubmatch(s)
	if m == nil || len(s) > 40 {
		return ""
	}
	canon := strings.ToLower(m[1])
	if m[2] != "" {
		canon += "-" + strings.ToUpper(m[2][:1]) + strings.ToLower(m[2][1:])
	}
	if m[3] != "" {
		canon += "-" + strings.ToUpper(m[3])
	}
	variants := strings.ReplaceAll(strings.ToLower(m[4]), "_", "-")
	seen := map[string]bool{}
	for _, v := range strings.Split(variants, "-")[1:] {
		if seen[v] {
			return ""
		}
		seen[v] = true
	}
	return canon + variants
}

// definedParent tells the parent of a canonical tag by the chapter's words.
func definedParent(canon string) string {
	if canon == "root" {
		return ""
	}
	parts := strings.Split(canon, "-")
	if len(parts) == 1 {
		return "root"
	}
	return strings.Join(parts[:len(parts)-1], "-")
}

// isAsDefined holds all four calls of s against the chapter's words.
func isAsDefined(t *testing.T, s string) {
	t.Helper()
	want := defined(s)
	got, err := Canon(s)
	if got != want || (err == api.OK) != (want != "") || err != api.OK && err != api.ErrTag {
		t.Errorf("P9.1: Canon(%q) = %q, %v, want %q", s, got, err, want)
	}
	if want == "" || want != s {
		if Is(s) || len(Parts(s)) != 0 || Parent(s) != "" {
			t.Errorf("P9.2: %q is not canonical: %v, %q, %q", s, Is(s), Parts(s), Parent(s))
		}
		return
	}
	if !Is(s) || !slices.Equal(Parts(s), strings.Split(s, "-")) || Parent(s) != definedParent(s) {
		t.Errorf("P9.2: %q is canonical: %v, %q, %q", s, Is(s), Parts(s), Parent(s))
	}
}

// texts tells all texts of at most so many of these signs.
func texts(signs string, most int) []string {
	all := []string{""}
	for from := 0; most > 0; most-- {
		end := len(all)
		for _, s := range all[from:end] {
			for i := range len(signs) {
				all = append(all, s+signs[i:i+1])
			}
		}
		from = end
	}
	return all
}

// P9.1, P9.2: all short texts of a few signs, root's letters among them.
func TestShortTexts(t *testing.T) {
	for _, s := range texts("aZ19-_.", 6) {
		isAsDefined(t, s)
	}
	for _, s := range texts("rRoOtT-", 6) {
		isAsDefined(t, s)
	}
	for _, s := range texts("a1-", 9) {
		isAsDefined(t, s)
	}
}

// subtagSamples has subtags of each kind, and some that are near to one.
func subtagSamples() []string {
	return []string{
		"", "a", "9", "ab", "XY", "a1", "12", "abc", "XyZ", "419", "4a9", "a19", "abcd", "LATN", "root", "1996", "1AbC", "a199",
		"rozaj", "BISKE", "12345", "a1b2c", "abcdefgh", "ABCDEFGH", "12345678", "abcdefghi", "a.b", "é", "ſs", "\u212A1", "ab\x00", "en ", "\xff\xfe",
	}
}

// P9.1, P9.2: all rows of at most three subtags, and rows of more that begin
// well.
func TestRowsOfSubtags(t *testing.T) {
	samples := subtagSamples()
	for _, a := range samples {
		isAsDefined(t, a)
		for _, b := range samples {
			isAsDefined(t, a+"-"+b)
			isAsDefined(t, a+"_"+b)
			for _, c := range samples {
				isAsDefined(t, a+"-"+b+"_"+c)
				for _, ahead := range []string{"de-", "de_Latn-", "DE-latn_de-", "de-de-", "de-1996_"} {
					isAsDefined(t, ahead+a+"-"+b+"_"+c)
				}
			}
		}
	}
}

// P9.1, P9.2: long rows at random, up to and past MaxTag.
func TestRowsAtRandom(t *testing.T) {
	random := rand.New(rand.NewSource(9))
	samples := subtagSamples()
	tags := 0
	for range 200000 {
		s := []string{"de", "EN", "deu"}[random.Intn(3)]
		for range random.Intn(8) {
			s += []string{"-", "_"}[random.Intn(2)]
			if random.Intn(20) == 0 {
				s += samples[random.Intn(len(samples))]
			} else {
				s += variantAtRandom(random)
			}
		}
		isAsDefined(t, s)
		if defined(s) != "" {
			tags++
			isAsDefined(t, defined(s))
		}
	}
	if tags < 10000 {
		t.Errorf("only %d of them are tags", tags)
	}
}

// variantAtRandom tells a variant, mostly, of few signs, so that the same one
// comes again in another case.
func variantAtRandom(random *rand.Rand) string {
	s := make([]byte, 4+random.Intn(5))
	for i := range s {
		s[i] = "aA1"[random.Intn(3)]
	}
	if len(s) == 4 && random.Intn(10) > 0 {
		s[0] = '1'
	}
	return string(s)
}

// P9.1: of each byte, by itself, in each place of a tag.
func TestEachByteInEachPlace(t *testing.T) {
	for _, s := range []string{"root", "en", "eng", "en-Latn", "en-US", "es-419", "de-1996", "en-posix", "en-abcdefgh", "en-Latn-US-posix", "zh_hant_tw_1a2b"} {
		for place := range len(s) {
			for c := range 256 {
				isAsDefined(t, s[:place]+string([]byte{byte(c)})+s[place+1:])
				isAsDefined(t, s[:place]+string([]byte{byte(c)})+s[place:])
			}
			isAsDefined(t, s[:place]+s[place+1:])
		}
	}
}
