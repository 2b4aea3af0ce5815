package lex

import (
	"slices"
	"testing"

	"hornbook/api"
)

// placeless tells signs without their places.
func placeless(l []api.Token) []api.Token {
	out := slices.Clone(l)
	for i := range out {
		out[i].At = 0
	}
	return out
}

// isAgain holds that signs are read again as they were printed.
func isAgain(t *testing.T, l []api.Token) {
	t.Helper()
	printed := Print(l)
	again, at, err := Scan(printed)
	if err != api.OK || at != 0 || !slices.Equal(placeless(again), placeless(l)) {
		t.Fatalf("%v is printed as %q and read as %v, %d, %v", l, printed, again, at, err)
	}
	if twice := Print(again); twice != printed {
		t.Fatalf("%q is printed as %q", printed, twice)
	}
}

// P6.3: all texts that are tried and have signs.
func TestTextsAgain(t *testing.T) {
	some := 0
	for _, s := range texts() {
		if l, _, err := Scan(s); err == api.OK {
			isAgain(t, l)
			some++
		}
	}
	if some < 1000 {
		t.Errorf("%d texts have signs", some)
	}
}

// P6.3: signs of every kind, beside signs of every kind.
func TestRowsAgain(t *testing.T) {
	for _, row := range rows() {
		isAgain(t, row)
	}
}

// P6.3: every character, surrogates too.
func TestCharactersAgain(t *testing.T) {
	var row []api.Token
	for r := int32(0); r <= api.MaxRune; r++ {
		row = append(row, api.Token{Kind: api.TChar, R: r})
	}
	isAgain(t, append(row, api.Token{}))
}

// P6.3: signs that would be one if nothing stood between.
func TestNeighboursAgain(t *testing.T) {
	for _, s := range []string{"a b", "a -", "- a", "a 1", "1 2", "1 a", "$a b", "$a 1", "'a a", "<> >< <>", `"a" "b"`, "{A} {B}", "a\n\nb", "$a $b", "[ ^ ]", "# x\na # y\n", "a # b", "' '#"} {
		l, _, err := Scan(s)
		if err != api.OK {
			t.Fatalf("%q: %v", s, err)
		}
		isAgain(t, l)
	}
	for _, s := range []string{"a b", "a 1", "1 2", "$a b", "a -", "<> ><", "a\n\nb", `'\u{61} - '\u{7A}`} {
		if l, _, _ := Scan(s); Print(l) != s {
			t.Errorf("%q is printed as %q", s, Print(l))
		}
	}
}
