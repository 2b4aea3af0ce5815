package chain

import (
	"math/rand"
	"regexp"
	"slices"
	"strings"
	"testing"

	"hornbook/api"
)

// defined is a forest by the chapter's words: rows of a locale and its parent,
// in whatever order they came.
type defined [][2]string

// canonical is the chapter's form of a canonical tag, but for its length and
// for variants that stand twice.
var canonical = regexp.MustCompile(`\A(root|[a-z]{2,3}(-[A-Z][a-z]{3})?(-([A-Z]{2}|[0-9]{3}))?(-([a-z0-9]{5,8}|[0-9][a-z0-9]{3}))*)\z`)

func isTag(s string) bool {
	variants := map[string]bool{}
	for _, part := range strings.Split(s, "-") {
		if variants[part] {
			return false
		}
		variants[part] = true
	}
	return canonical.MatchString(s) && len(s) <= 40
}

func (d defined) find(locale string) int {
	return slices.IndexFunc(d, func(row [2]string) bool { return row[0] == locale })
}

func (d *defined) set(locale, parent string) api.Errno {
	if !isTag(locale) || parent != "" && !isTag(parent) {
		return api.ErrTag
	}
	d.drop(locale)
	*d = append(*d, [2]string{locale, parent})
	return api.OK
}

func (d *defined) drop(locale string) api.Errno {
	i := d.find(locale)
	if i < 0 {
		return api.ErrNone
	}
	*d = slices.Delete(slices.Clone(*d), i, i+1)
	return api.OK
}

func (d defined) all() []string {
	var all []string
	for _, row := range d {
		all = append(all, row[0])
	}
	slices.SortFunc(all, func(a, b string) int { return slices.Compare([]byte(a), []byte(b)) })
	return all
}

func (d defined) next(locale string) (string, bool, api.Errno) {
	i := d.find(locale)
	if i < 0 {
		return "", false, api.ErrNone
	}
	if parent := d[i][1]; parent != "" {
		if d.find(parent) < 0 {
			return "", false, api.ErrParent
		}
		return parent, true, api.OK
	}
	if locale == "root" {
		return "", false, api.OK
	}
	parts := strings.Split(locale, "-")
	for n := len(parts) - 1; n > 0; n-- {
		if up := strings.Join(parts[:n], "-"); d.find(up) >= 0 {
			return up, true, api.OK
		}
	}
	if d.find("root") >= 0 {
		return "root", true, api.OK
	}
	return "", false, api.OK
}

// chain goes on far beyond what may be, and then asks which error was met
// first.
func (d defined) chain(locale string) ([]string, api.Errno) {
	if d.find(locale) < 0 {
		return nil, api.ErrNone
	}
	row := []string{locale}
	for len(row) < 100 {
		next, more, err := d.next(row[len(row)-1])
		if err != api.OK {
			row = append(row, "?")
		}
		if !more {
			break
		}
		row = append(row, next)
	}
	for i, one := range row {
		switch {
		case one == "?":
			return nil, api.ErrParent
		case slices.Index(row, one) < i:
			return nil, api.ErrCycle
		case i == 6:
			return nil, api.ErrChain
		}
	}
	return row, api.OK
}

func (d defined) check() (string, api.Errno) {
	for _, locale := range d.all() {
		if _, err := d.chain(locale); err != api.OK {
			return locale, err
		}
	}
	return "", api.OK
}

func (d defined) under(locale string) []string {
	var under []string
	for _, other := range d.all() {
		if chain, _ := d.chain(other); slices.Index(chain, locale) > 0 {
			under = append(under, other)
		}
	}
	return under
}

// isAsDefined holds all that f tells of some tags, and of its own locales,
// against the chapter's words.
func isAsDefined(t *testing.T, f *Forest, d defined, tags []string) {
	t.Helper()
	all := d.all()
	if got := f.All(); !slices.Equal(got, all) {
		t.Fatalf("P11.1: All of %q: %q", d, got)
	}
	for _, locale := range slices.Concat(tags, all) {
		if got := f.Has(locale); got != (d.find(locale) >= 0) {
			t.Fatalf("P11.1: Has(%q) of %q: %v", locale, d, got)
		}
		next, ok, err := f.Next(locale)
		if wantNext, wantOK, want := d.next(locale); next != wantNext || ok != wantOK || err != want {
			t.Fatalf("P11.2: Next(%q) of %q: %q, %v, %v", locale, d, next, ok, err)
		}
		chain, err := f.Chain(locale)
		if wantChain, want := d.chain(locale); !slices.Equal(chain, wantChain) || err != want {
			t.Fatalf("P11.2: Chain(%q) of %q: %q, %v", locale, d, chain, err)
		}
		if got := f.Under(locale); !slices.Equal(got, d.under(locale)) {
			t.Fatalf("P11.2: Under(%q) of %q: %q", locale, d, got)
		}
	}
	locale, err := f.Check()
	if wantLocale, want := d.check(); locale != wantLocale || err != want {
		t.Fatalf("P11.2: Check of %q: %q, %v", d, locale, err)
	}
}

// everyForest goes through all forests of these locales, each of them not
// there, or there with one of these parents.
func everyForest(locales, parents []string, such func(f *Forest, d defined)) {
	choice := make([]int, len(locales))
	for {
		f, d := New(), defined(nil)
		for i, c := range choice {
			if c > 0 {
				f.Set(locales[i], parents[c-1])
				d.set(locales[i], parents[c-1])
			}
		}
		such(f, d)
		i := 0
		for i < len(choice) && choice[i] == len(parents) {
			choice[i] = 0
			i++
		}
		if i == len(choice) {
			return
		}
		choice[i]++
	}
}

// P11.1, P11.2: all forests of few locales.
func TestEveryForestOfFew(t *testing.T) {
	errs := map[api.Errno]int{}
	everyForest([]string{"root", "en", "en-GB", "en-GB-oxendict", "de"}, []string{"", "root", "en", "en-GB", "de", "zz"}, func(f *Forest, d defined) {
		isAsDefined(t, f, d, []string{"", "zz"})
		_, err := f.Check()
		errs[err]++
	})
	if errs[api.OK] < 500 || errs[api.ErrParent] < 500 || errs[api.ErrCycle] < 500 {
		t.Errorf("%v", errs)
	}
}

// P11.1, P11.2: all forests of locales beneath one another, where the longest
// chain is as long as it may be, or too long by one.
func TestEveryForestOfTagsAlone(t *testing.T) {
	errs := map[api.Errno]int{}
	locales := []string{"root", "zh", "zh-Hant", "zh-Hant-TW", "zh-Hant-TW-1abc", "zh-Hant-TW-1abc-abcde", "zh-Hant-TW-1abc-abcde-00000"}
	everyForest(locales, []string{"", "zh-Hant"}, func(f *Forest, d defined) {
		isAsDefined(t, f, d, nil)
		_, err := f.Check()
		errs[err]++
	})
	if errs[api.OK] == 0 || errs[api.ErrChain] == 0 {
		t.Errorf("%v", errs)
	}
}

// poolOfTags has tags of all kinds, some of them beneath others, and what is no
// canonical tag.
func poolOfTags() []string {
	return []string{
		"root", "en", "en-GB", "en-Latn", "en-Latn-GB", "en-Latn-GB-oxendict", "en-GB-oxendict", "de", "de-1996", "de-AT", "de-AT-1996",
		"fr", "gsw", "aa", "bb", "cc", "", "EN", "en_GB", "en-gb", "Root", "x", "en-", "de-1996-1996",
	}
}

// P11.1, P11.2: steps at random, with copies that go on by themselves.
func TestStepsAtRandom(t *testing.T) {
	random := rand.New(rand.NewSource(11))
	tags := poolOfTags()
	anyTag := func(most int) string { return tags[random.Intn(most)] }
	errs := map[api.Errno]int{}
	for range 80 {
		most := []int{6, 12, 16, len(tags)}[random.Intn(4)]
		forests, models := []*Forest{New()}, []defined{nil}
		for range 40 {
			i := random.Intn(len(forests))
			f, d := forests[i], &models[i]
			got, want := api.OK, api.OK
			switch random.Intn(8) {
			case 0, 1:
				locale := anyTag(most)
				got, want = f.Drop(locale), d.drop(locale)
			case 2:
				if len(forests) < 3 {
					forests, models = append(forests, f.Copy()), append(models, slices.Clone(*d))
				}
			case 3, 4:
				locale := anyTag(most)
				got, want = f.Set(locale, ""), d.set(locale, "")
			default:
				locale, parent := anyTag(most), anyTag(most)
				got, want = f.Set(locale, parent), d.set(locale, parent)
			}
			if got != want {
				t.Fatalf("P11.1: %v, want %v, at %q", got, want, *d)
			}
			errs[got]++
			for i, f := range forests {
				isAsDefined(t, f, models[i], tags)
				_, err := f.Check()
				errs[err]++
			}
		}
	}
	for _, err := range []api.Errno{api.OK, api.ErrTag, api.ErrNone, api.ErrParent, api.ErrCycle, api.ErrChain} {
		if errs[err] < 20 {
			t.Errorf("%v came %d times", err, errs[err])
		}
	}
}

// longForest makes a forest most of whose locales name the one ahead of them.
func longForest(random *rand.Rand, locales []string) (*Forest, defined) {
	f, d := New(), defined(nil)
	for i, locale := range locales {
		parent := ""
		switch random.Intn(12) {
		case 0:
		case 1:
			parent = locales[random.Intn(len(locales))]
		case 2:
			parent = "zz"
		default:
			parent = locales[max(i-1, 0)]
		}
		f.Set(locale, parent)
		d.set(locale, parent)
	}
	return f, d
}

// P11.2: chains at random that are long, go round, and end with nobody.
func TestLongChainsAtRandom(t *testing.T) {
	random := rand.New(rand.NewSource(12))
	errs := map[api.Errno]int{}
	for range 1500 {
		locales := []string{"aa", "bb", "cc", "dd", "ee", "ff", "gg", "hh", "aa-DE", "root"}
		random.Shuffle(len(locales), func(i, j int) { locales[i], locales[j] = locales[j], locales[i] })
		f, d := longForest(random, locales[:5+random.Intn(6)])
		isAsDefined(t, f, d, locales)
		for _, locale := range locales {
			_, err := f.Chain(locale)
			errs[err]++
		}
	}
	for _, err := range []api.Errno{api.OK, api.ErrNone, api.ErrParent, api.ErrCycle, api.ErrChain} {
		if errs[err] < 100 {
			t.Errorf("%v came %d times", err, errs[err])
		}
	}
}
