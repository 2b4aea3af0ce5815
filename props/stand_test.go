package props

import (
	"slices"
	"testing"

	"hornbook/api"
	"hornbook/uniset"
)

// setNamed tells the set of a name that there is.
func setNamed(t *testing.T, name string) []api.Range {
	t.Helper()
	set, err := Set(name)
	if err != api.OK {
		t.Fatalf("Set(%q): %v", name, err)
	}
	return set
}

// P5.2: what a name stands for is a set, of something, that could be made of
// ranges; no two names stand for the same.
func TestNamesStandForSets(t *testing.T) {
	names := Names()
	for i, name := range names {
		set := setNamed(t, name)
		normed, err := uniset.Norm(set)
		if !uniset.Is(set) || err != api.OK || !slices.Equal(normed, set) || uniset.Count(set) == 0 {
			t.Errorf("Set(%s) = %v is no set", name, set)
		}
		for _, other := range names[:i] {
			if uniset.Same(set, setNamed(t, other)) {
				t.Errorf("%s and %s are the same", other, name)
			}
		}
	}
}

// P5.2: the one way and the other: of every code point the names are those
// whose sets have it.
func TestSetsAndOfAgree(t *testing.T) {
	names := Names()
	sets := make([][]api.Range, len(names))
	for i, name := range names {
		sets[i] = setNamed(t, name)
	}
	for p := int32(-10); p <= top+10; p++ {
		if p == 0x20000 {
			p = top - 10 // between them no range of the table but that of Any begins or ends
		}
		var want []string
		for i, name := range names {
			if has(sets[i], p) {
				want = append(want, name)
			}
		}
		if got := Of(p); !slices.Equal(got, want) {
			t.Fatalf("Of(%X) = %q, want %q", p, got, want)
		}
	}
}

// P5.2: names that the chapter tells by others, and those that share nothing.
func TestSetsOfOneAnother(t *testing.T) {
	letter, upper, lower := setNamed(t, "Letter"), setNamed(t, "Upper"), setNamed(t, "Lower")
	rest := []api.Range{{Lo: 0x370, Hi: 0x52F}}
	if !uniset.Same(letter, uniset.Union(uniset.Union(upper, lower), rest)) {
		t.Error("Letter isn't Upper, Lower and the rest")
	}
	if !uniset.Same(setNamed(t, "Any"), uniset.Not(nil)) {
		t.Error("Any isn't all")
	}
	apart := []string{"Digit", "Emoji", "Han", "Kana", "Letter", "Mark", "Punct", "Space"}
	for i, name := range apart {
		for _, other := range apart[:i] {
			if both := uniset.Inter(setNamed(t, name), setNamed(t, other)); len(both) != 0 {
				t.Errorf("%s and %s have %v", other, name, both)
			}
		}
	}
	if both := uniset.Inter(upper, lower); len(both) != 0 {
		t.Errorf("Upper and Lower have %v", both)
	}
}

// P5.2: nothing else: a name is told to be one exactly if Names has it, whatever
// was asked ahead of it.
func TestNothingElse(t *testing.T) {
	names := Names()
	for _, name := range append(otherNames(), names...) {
		if _, err := Set(name); (err == api.OK) != slices.Contains(names, name) {
			t.Errorf("Set(%q): %v", name, err)
		}
	}
	if !slices.Equal(Names(), names) {
		t.Error("a name has come, or gone")
	}
}
