package props

import (
	"math"
	"slices"
	"strconv"
	"strings"
	"testing"

	"hornbook/api"
)

const top = api.MaxRune

// named: a name, and its code points as the chapter's table has them.
type named struct{ name, points string }

// chapter is the chapter's table, with what it says by other names written out.
func chapter() []named {
	const upper, lower = "41-5A, C0-D6, D8-DE", "61-7A, DF-F6, F8-FF"
	return []named{
		{"Any", "0-10FFFF"},
		{"Digit", "30-39, 660-669"},
		{"Upper", upper},
		{"Lower", lower},
		{"Letter", upper + ", " + lower + ", 370-3FF, 400-52F"},
		{"Space", "9-D, 20, 85, A0, 2000-200A, 2028-2029, 3000"},
		{"Mark", "300-36F, 200D, FE00-FE0F"},
		{"Punct", "21-2F, 3A-40, 5B-60, 7B-7E, 2010-2027"},
		{"Han", "4E00-9FFF"},
		{"Kana", "3040-30FF"},
		{"Emoji", "1F300-1FAFF"},
	}
}

// ranges reads what the table has, in its order.
func (n named) ranges(t *testing.T) []api.Range {
	t.Helper()
	number := func(text string) int32 {
		p, err := strconv.ParseInt(text, 16, 32)
		if err != nil {
			t.Fatal(err)
		}
		return int32(p)
	}
	var out []api.Range
	for _, part := range strings.Split(n.points, ", ") {
		lo, hi, two := strings.Cut(part, "-")
		if !two {
			hi = lo
		}
		out = append(out, api.Range{Lo: number(lo), Hi: number(hi)})
	}
	return out
}

func has(l []api.Range, p int32) bool {
	return slices.ContainsFunc(l, func(r api.Range) bool { return r.Lo <= p && p <= r.Hi })
}

// edges tells, rising, all ends of the table's ranges and what is just beyond
// them, and numbers that are no code points.
func edges(t *testing.T) []int32 {
	t.Helper()
	out := []int32{math.MinInt32, math.MinInt32 + 1, -2, -1, 0, 1, 0xD7, 0xF7, 0xD800, 0xDFFF, top - 1, top, top + 1, math.MaxInt32 - 1, math.MaxInt32}
	for _, n := range chapter() {
		for _, r := range n.ranges(t) {
			out = append(out, r.Lo-1, r.Lo, r.Lo+1, r.Hi-1, r.Hi, r.Hi+1)
		}
	}
	slices.Sort(out)
	return slices.Compact(out)
}

// definedOf: the names of the table that have p, byte by byte.
func definedOf(t *testing.T, p int32) []string {
	t.Helper()
	var out []string
	for _, n := range chapter() {
		if has(n.ranges(t), p) {
			out = append(out, n.name)
		}
	}
	slices.Sort(out)
	return out
}

// otherNames tells texts that are no names, near to names most of them.
func otherNames() []string {
	out := []string{"", " ", "\x00", "\n", ",", "Digits", "Letters", "L", "Lu", "Hiragana", "Katakana", "Alpha", "All", "None", "Anyone", "Upper Lower", "UpperLower", "Upper,Lower", "^Any", "-", "30-39", "0-10FFFF", "\xFF", "Ány", strings.Repeat("Any", 1000)}
	for _, n := range chapter() {
		for i := range n.name {
			out = append(out, n.name[:i], n.name[i+1:], n.name[:i]+n.name[i+1:], n.name[:i]+" "+n.name[i:])
			out = append(out, n.name[:i]+string(n.name[i]^0x20)+n.name[i+1:], n.name[:i]+string(n.name[i]+1)+n.name[i+1:])
		}
		out = append(out, strings.ToLower(n.name), strings.ToUpper(n.name), n.name+n.name)
		for _, sign := range []string{" ", "\t", "\n", "\x00", "{", "}", "s", "\xFF", "\u00A0", "\uFEFF"} {
			out = append(out, sign+n.name, n.name+sign, sign+n.name+sign)
		}
		out = append(out, "{"+n.name+"}", `"`+n.name+`"`)
	}
	return out
}
