package props

import (
	"slices"
	"testing"

	"hornbook/api"
)

// P5.1: the table's sets as a set stands: ranges that touch are one.
func TestKnownSets(t *testing.T) {
	known := map[string][]int32{
		"Any":    {0, 1114111},
		"Digit":  {'0', '9', 1632, 1641},
		"Upper":  {'A', 'Z', 192, 214, 216, 222},
		"Lower":  {'a', 'z', 223, 246, 248, 255},
		"Letter": {'A', 'Z', 'a', 'z', 192, 214, 216, 246, 248, 255, 880, 1327},
		"Space":  {9, 13, ' ', ' ', 133, 133, 160, 160, 8192, 8202, 8232, 8233, 12288, 12288},
		"Mark":   {768, 879, 8205, 8205, 65024, 65039},
		"Punct":  {'!', '/', ':', '@', '[', '`', '{', '~', 8208, 8231},
		"Han":    {19968, 40959},
		"Kana":   {12352, 12543},
		"Emoji":  {127744, 129791},
	}
	for name, ends := range known {
		var want []api.Range
		for i := 0; i < len(ends); i += 2 {
			want = append(want, api.Range{Lo: ends[i], Hi: ends[i+1]})
		}
		if got, err := Set(name); err != api.OK || !slices.Equal(got, want) {
			t.Errorf("Set(%s) = %v, %v, want %v", name, got, err, want)
		}
	}
	if len(known) != len(chapter()) {
		t.Errorf("%d sets are known", len(known))
	}
}

// P5.1: both ends of each range of the table, and what is just beyond them, of
// every range of every name.
func TestEndsOfSets(t *testing.T) {
	for _, n := range chapter() {
		got, err := Set(n.name)
		if err != api.OK {
			t.Errorf("Set(%s): %v", n.name, err)
		}
		want := n.ranges(t)
		for _, p := range edges(t) {
			if has(got, p) != has(want, p) {
				t.Errorf("Set(%s) has %X: %v", n.name, p, has(got, p))
			}
		}
	}
}

// P5.1: another name.
func TestOtherNames(t *testing.T) {
	for _, n := range chapter() {
		if slices.Contains(otherNames(), n.name) {
			t.Fatalf("%s is a name", n.name)
		}
	}
	for _, name := range otherNames() {
		if got, err := Set(name); err != api.ErrProp || len(got) != 0 {
			t.Errorf("Set(%q) = %v, %v", name, got, err)
		}
	}
	if api.ErrProp != 50 {
		t.Errorf("ErrProp is %d", int(api.ErrProp))
	}
}

// P5.1
func TestNames(t *testing.T) {
	want := []string{"Any", "Digit", "Emoji", "Han", "Kana", "Letter", "Lower", "Mark", "Punct", "Space", "Upper"}
	if got := Names(); !slices.Equal(got, want) {
		t.Errorf("Names() = %q", got)
	}
	var table []string
	for _, n := range chapter() {
		table = append(table, n.name)
	}
	slices.Sort(table)
	if !slices.Equal(Names(), table) {
		t.Errorf("the table has %q", table)
	}
}

// P5.1: single code points, and numbers that are none.
func TestKnownOf(t *testing.T) {
	for _, k := range []struct {
		p    int32
		want []string
	}{
		{0, []string{"Any"}},
		{api.MaxRune, []string{"Any"}},
		{-1, nil},
		{-'a', nil},
		{api.MaxRune + 1, nil},
		{'a', []string{"Any", "Letter", "Lower"}},
		{'Z', []string{"Any", "Letter", "Upper"}},
		{0xD7, []string{"Any"}},
		{0xDE, []string{"Any", "Letter", "Upper"}},
		{0xDF, []string{"Any", "Letter", "Lower"}},
		{0xF7, []string{"Any"}},
		{0x37F, []string{"Any", "Letter"}},
		{0x52F, []string{"Any", "Letter"}},
		{0x530, []string{"Any"}},
		{'0', []string{"Any", "Digit"}},
		{0x669, []string{"Any", "Digit"}},
		{'\t', []string{"Any", "Space"}},
		{0x3000, []string{"Any", "Space"}},
		{0x200B, []string{"Any"}},
		{0x200D, []string{"Any", "Mark"}},
		{0x36F, []string{"Any", "Mark"}},
		{0x370, []string{"Any", "Letter"}},
		{'_', []string{"Any", "Punct"}},
		{0x2027, []string{"Any", "Punct"}},
		{0x2028, []string{"Any", "Space"}},
		{0x9FFF, []string{"Any", "Han"}},
		{0x303F, []string{"Any"}},
		{0x30FF, []string{"Any", "Kana"}},
		{0xD800, []string{"Any"}},
		{0x1FAFF, []string{"Any", "Emoji"}},
	} {
		if got := Of(k.p); !slices.Equal(got, k.want) {
			t.Errorf("Of(%X) = %q, want %q", k.p, got, k.want)
		}
	}
}

// P5.1: the names of what is at each end of each range, and just beyond.
func TestEndsOfOf(t *testing.T) {
	for _, p := range edges(t) {
		if got, want := Of(p), definedOf(t, p); !slices.Equal(got, want) {
			t.Errorf("Of(%X) = %q, want %q", p, got, want)
		}
	}
}

// The names may be left at any point, and gone through again meanwhile.
func TestNamesLeft(t *testing.T) {
	want, names := Names(), all()
	for most := range len(want) + 1 {
		var got []string
		for name := range names {
			if len(got) == most {
				break
			}
			got = append(got, name)
			for again := range names {
				if again != want[0] {
					t.Errorf("gone through again: %s", again)
				}
				break
			}
		}
		if !slices.Equal(got, want[:most]) {
			t.Errorf("the first %d: %q", most, got)
		}
	}
}
