package lex

import (
	"math"
	"strings"
	"testing"

	"hornbook/api"
)

// isPrint holds what is printed of signs.
func isPrint(t *testing.T, want string, l ...api.Token) {
	t.Helper()
	if got := Print(l); got != want {
		t.Errorf("Print(%v) = %q, want %q", l, got, want)
	}
}

// P6.2: every kind by itself; its place counts for nothing.
func TestPrintEveryKind(t *testing.T) {
	for _, k := range []struct {
		sign api.Token
		want string
	}{
		{api.Token{Kind: api.TName, Text: "abc1"}, "$abc1"},
		{api.Token{Kind: api.TNum, Text: "120"}, "120"},
		{api.Token{Kind: api.TIdent, Text: "en-GB_x"}, "en-GB_x"},
		{api.Token{Kind: api.TWord}, `""`},
		{api.Token{Kind: api.TWord, Text: "a b#é"}, `"a b#é"`},
		{api.Token{Kind: api.TWord, Text: `"`}, `"\""`},
		{api.Token{Kind: api.TWord, Text: `\`}, `"\\"`},
		{api.Token{Kind: api.TWord, Text: `a\"b"\`}, `"a\\\"b\"\\"`},
		{api.Token{Kind: api.TChar}, `'\u{0}`},
		{api.Token{Kind: api.TChar, R: 'a'}, `'\u{61}`},
		{api.Token{Kind: api.TChar, R: 0xA}, `'\u{A}`},
		{api.Token{Kind: api.TChar, R: 0x10}, `'\u{10}`},
		{api.Token{Kind: api.TChar, R: 0xABCDE}, `'\u{ABCDE}`},
		{api.Token{Kind: api.TChar, R: 0xD800}, `'\u{D800}`},
		{api.Token{Kind: api.TChar, R: 0x10FFFF}, `'\u{10FFFF}`},
		{api.Token{Kind: api.TProp, Text: "Digit"}, "{Digit}"},
		{api.Token{Kind: api.TSign, Text: "^"}, "^"},
		{api.Token{Kind: api.TSign, Text: "><"}, "><"},
		{api.Token{Kind: api.TSign, Text: "<>"}, "<>"},
		{api.Token{Kind: api.TLine}, "\n"},
		{api.Token{Kind: api.TEnd}, ""},
		{api.Token{Kind: api.TEnd, Text: "x", R: 'x'}, ""},
		{api.Token{Kind: api.TLine, Text: "x", R: 'x'}, "\n"},
	} {
		isPrint(t, k.want, k.sign)
		k.sign.At = 99
		isPrint(t, k.want, k.sign)
		k.sign.At = -1
		isPrint(t, k.want, k.sign)
	}
	isPrint(t, "")
}

// P6.2: what is no kind is nothing, and so is a TEnd: no blank beside it, one
// between what stands on both sides.
func TestPrintNoKind(t *testing.T) {
	a, b := api.Token{Kind: api.TIdent, Text: "a"}, api.Token{Kind: api.TIdent, Text: "b"}
	line := api.Token{Kind: api.TLine}
	for _, kind := range []int{api.TEnd, -1, -8, 9, 10, 99, math.MinInt, math.MaxInt} {
		none := api.Token{Kind: kind, Text: "none", R: 'n'}
		isPrint(t, "", none)
		isPrint(t, "", none, none)
		isPrint(t, "a", none, a)
		isPrint(t, "a", a, none)
		isPrint(t, "a b", a, none, b)
		isPrint(t, "a b", none, a, none, none, b, none)
		isPrint(t, "a\n", a, none, line)
		isPrint(t, "\nb", line, none, b)
		isPrint(t, "\n\n", line, none, line)
	}
	if api.TIdent != 8 {
		t.Errorf("the last kind is %d", api.TIdent)
	}
}

// P6.2: beside a line feed there is no blank.
func TestPrintLines(t *testing.T) {
	line := api.Token{Kind: api.TLine}
	for _, sign := range everySign() {
		if sign.Kind == api.TLine {
			continue
		}
		one := Print([]api.Token{sign})
		isPrint(t, one+" "+one, sign, sign)
		isPrint(t, one+" "+one+" "+one, sign, sign, sign)
		isPrint(t, "\n"+one, line, sign)
		isPrint(t, one+"\n", sign, line)
		isPrint(t, one+"\n"+one, sign, line, sign)
		isPrint(t, "\n\n"+one+" "+one+"\n\n\n"+one+"\n", line, line, sign, sign, line, line, line, sign, line)
	}
}

// P6.2: a sign counts by its kind: one that says nothing has its blanks, and
// what it says stands as it is.
func TestPrintOddTexts(t *testing.T) {
	for _, kind := range []int{api.TNum, api.TIdent, api.TSign} {
		none := api.Token{Kind: kind}
		isPrint(t, "", none)
		isPrint(t, " ", none, none)
		isPrint(t, "  ", none, none, none)
		isPrint(t, "\n", none, api.Token{Kind: api.TLine}, none)
		isPrint(t, "a\n b\xFF", api.Token{Kind: kind, Text: "a\n"}, api.Token{Kind: kind, Text: "b\xFF"})
	}
	isPrint(t, "$ {}", api.Token{Kind: api.TName}, api.Token{Kind: api.TProp})
	isPrint(t, "\"\xFF\n\xC3\\\"\"", api.Token{Kind: api.TWord, Text: "\xFF\n\xC3\""})
	isPrint(t, `'\u{110000} '\u{7FFFFFFF} '\u{-1} '\u{-80000000}`,
		api.Token{Kind: api.TChar, R: 0x110000}, api.Token{Kind: api.TChar, R: math.MaxInt32}, api.Token{Kind: api.TChar, R: -1}, api.Token{Kind: api.TChar, R: math.MinInt32})
}

// P6.2: all lists that are tried.
func TestPrintIsDefined(t *testing.T) {
	for _, row := range rows() {
		if got, want := Print(row), definedPrint(row); got != want {
			t.Fatalf("Print(%v) = %q, want %q", row, got, want)
		}
	}
	for _, s := range texts() {
		if l, _, err := Scan(s); err == api.OK && Print(l) != definedPrint(l) {
			t.Fatalf("%q is printed as %q", s, Print(l))
		}
	}
}

// P6.2: lists that are long.
func TestPrintLong(t *testing.T) {
	row := make([]api.Token, 1<<18)
	for i := range row {
		row[i] = api.Token{Kind: api.TSign, Text: "("}
	}
	if got := Print(row); got != strings.Repeat("( ", len(row)-1)+"(" {
		t.Errorf("%d bytes", len(got))
	}
	long := strings.Repeat(`\`, 1<<18)
	isPrint(t, `"`+long+long+`"`, api.Token{Kind: api.TWord, Text: long})
}
