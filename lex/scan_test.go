package lex

import (
	"fmt"
	"slices"
	"strings"
	"testing"

	"hornbook/api"
)

// end is what is behind all signs of s.
func end(s string) api.Token { return api.Token{Kind: api.TEnd, At: len(s)} }

// isOne holds that s has one sign, at a place, and the TEnd.
func isOne(t *testing.T, s string, want api.Token) {
	t.Helper()
	got, at, err := Scan(s)
	if err != api.OK || at != 0 || !slices.Equal(got, []api.Token{want, end(s)}) {
		t.Errorf("Scan(%q) = %v, %d, %v, want %v", s, got, at, err, want)
	}
}

// isNone holds that the byte at a place of s is the first that begins no sign.
func isNone(t *testing.T, s string, want int) {
	t.Helper()
	if got, at, err := Scan(s); err != api.ErrSign || at != want || len(got) != 0 {
		t.Errorf("Scan(%q) = %v, %d, %v, want none at %d", s, got, at, err, want)
	}
}

// P6.1: what the table says, of all texts that are tried.
func TestScanIsDefined(t *testing.T) {
	table := shapes()
	for _, s := range texts() {
		want, wantAt, wantErr := definedScan(table, s)
		got, at, err := Scan(s)
		if err != wantErr || at != wantAt || !slices.Equal(got, want) {
			t.Fatalf("Scan(%q) = %v, %d, %v, want %v, %d, %v", s, got, at, err, want, wantAt, wantErr)
		}
	}
}

// P6.1: every byte alone, behind a blank and behind a sign.
func TestEveryByte(t *testing.T) {
	signs := "\n[]()|*+?.^-:="
	for c := range 256 {
		s := string([]byte{byte(c)})
		isBlank := strings.Contains(" \t\r#", s)
		isText := 'a' <= c && c <= 'z' || 'A' <= c && c <= 'Z' || '0' <= c && c <= '9'
		got, at, err := Scan(s)
		switch {
		case isBlank && (err != api.OK || !slices.Equal(got, []api.Token{end(s)})):
			t.Errorf("Scan(%q) = %v, %d, %v", s, got, at, err)
		case isText || strings.Contains(signs, s):
			if err != api.OK || len(got) != 2 {
				t.Errorf("Scan(%q) = %v, %d, %v", s, got, at, err)
			}
		case !isBlank:
			isNone(t, s, 0)
			isNone(t, " "+s, 1)
			isNone(t, "(\n"+s, 2)
		}
	}
	if api.ErrSign != 60 {
		t.Errorf("ErrSign is %d", int(api.ErrSign))
	}
}

// P6.1: names.
func TestNames(t *testing.T) {
	long := strings.Repeat("aB3", 7)[:api.MaxName]
	for _, name := range []string{"a", "z", "A", "Z", "a0", "a9z", "parent", long} {
		isOne(t, "$"+name, api.Token{Kind: api.TName, Text: name})
		isOne(t, "\t$"+name+" ", api.Token{Kind: api.TName, Text: name, At: 1})
	}
	for _, s := range []string{"$", "$ a", "$1", "$1a", "$_", "$-", "$$a", "$\n", "$é", "$\xFF", "$[", "$`", "$@", "$" + long + "4", "$" + long + "b", "$" + strings.Repeat("x", 5000)} {
		isNone(t, s, 0)
		isNone(t, "[ "+s, 2)
	}
	isNone(t, "$"+long+"_", 1+api.MaxName) // the name ends there: the next byte begins nothing
	got, _, err := Scan("$" + long + "$" + long + "-x")
	if err != api.OK || len(got) != 5 || got[0].Text != long || got[1].Text != long || got[1].At != 21 || got[2].Kind != api.TSign || got[3].Kind != api.TIdent {
		t.Errorf("%v, %v", got, err)
	}
}

// P6.1: numbers.
func TestNumbers(t *testing.T) {
	for n := range 10000 {
		s := fmt.Sprint(n)
		isOne(t, s, api.Token{Kind: api.TNum, Text: s})
		if n < 1000 {
			isNone(t, "0"+s, 0)
			isNone(t, "x 0"+s, 2)
		}
		isNone(t, fmt.Sprint(10000+n), 0)
	}
	for _, s := range []string{"00", "000", "0000", "01", "0100", "00000", "12345", "123456", "99999999999999999999", strings.Repeat("1", 5000)} {
		isNone(t, s, 0)
		isNone(t, "'1"+s, 2)
	}
	got, _, err := Scan("10a 0:1234 5")
	if err != api.OK || len(got) != 7 || got[0].Text != "10" || got[1] != (api.Token{Kind: api.TIdent, At: 2, Text: "a"}) || got[2].Text != "0" || got[4].Text != "1234" || got[5].Text != "5" {
		t.Errorf("%v, %v", got, err)
	}
}

// P6.1: letters and what goes on like them, however long.
func TestIdents(t *testing.T) {
	for _, s := range []string{"a", "z", "A", "Z", "a-", "a_", "a--_", "en-GB", "x0", "x9-1_Z", "parent", strings.Repeat("k", api.MaxName+1), strings.Repeat("a-", 3000)} {
		isOne(t, s, api.Token{Kind: api.TIdent, Text: s})
	}
	isNone(t, "_a", 0)
	isNone(t, "aé", 1)
	isNone(t, "a@", 1)
	isNone(t, "a`", 1)
	got, _, err := Scan("-a.b")
	if err != api.OK || len(got) != 5 || got[0].Text != "-" || got[1].Text != "a" || got[2].Text != "." || got[3] != (api.Token{Kind: api.TIdent, At: 3, Text: "b"}) {
		t.Errorf("%v, %v", got, err)
	}
}

// P6.1: words.
func TestWords(t *testing.T) {
	for s, text := range map[string]string{
		`""`: "", `"a"`: "a", `"\""`: `"`, `"\\"`: `\`, `"\\\""`: `\"`, `"\"\\"`: `"\`, `"\\\\"`: `\\`, `"a\"b\\c"`: `a"b\c`, `"\\n"`: `\n`,
		`"#'$ {"`: "#'$ {", "\"\t\r \x00\v\"": "\t\r \x00\v", `"é€😀"`: "é€😀", "\"\uFFFD\"": "\uFFFD", "\"\U0010FFFF\"": "\U0010FFFF",
		`"` + strings.Repeat("w", 5000) + `"`: strings.Repeat("w", 5000),
	} {
		isOne(t, s, api.Token{Kind: api.TWord, Text: text})
		isOne(t, " "+s+"# x", api.Token{Kind: api.TWord, Text: text, At: 1})
	}
	for _, s := range []string{
		`"`, `"a`, `"\"`, `"a\"`, `"\\\"`, `"\`, `"a\`, `"\\`, `"\n"`, `"\u{61}"`, `"\ "`, `"\'"`, "\"\n\"", "\"a\nb\"", "\"\\\n\"",
		"\"\xFF\"", "\"a\x80\"", "\"\xC3\"", "\"\xC3\\\\\"", "\"\xC0\x80\"", "\"\xED\xA0\x80\"", "\"\xF4\x90\x80\x80\"", "\"\xE2\x82\"", "\"é\xA9\"",
	} {
		isNone(t, s, 0)
		isNone(t, "\n "+s, 2)
	}
	got, _, err := Scan(`"a""b"c"d"`)
	if err != api.OK || len(got) != 5 || got[0].Text != "a" || got[1] != (api.Token{Kind: api.TWord, At: 3, Text: "b"}) || got[2].Kind != api.TIdent || got[3].At != 7 {
		t.Errorf("%v, %v", got, err)
	}
	isNone(t, `"a"b"`, 4) // the second word has no last quote
}

// P6.1: characters as they stand: every code point that has UTF-8.
func TestCharacters(t *testing.T) {
	for r := int32(0); r <= api.MaxRune; r++ {
		s := "'" + string(r)
		switch {
		case r == '\n' || r == '\\':
			isNone(t, s, 0)
			isNone(t, "a "+s+"a", 2)
		case r < 0xD800 || r > 0xDFFF:
			isOne(t, s, api.Token{Kind: api.TChar, R: r})
		}
	}
	for _, s := range []string{"'", "'\xFF", "'\x80", "'\xC3", "'\xC3a", "'\xC0\x80", "'\xE2\x82", "'\xE2\x82a", "'\xED\xA0\x80", "'\xF0\x9F\x98", "'\xF4\x90\x80\x80", "'\xF8\x88\x80\x80\x80", "'\\", "'\\a", "'\\'", "'\\\\", "'\\n", "'\n'"} {
		isNone(t, s, 0)
		isNone(t, "'a"+s, 2)
	}
	isNone(t, "'éé", 3)
	got, _, err := Scan("'a-'z'''#'\"' 'é'é#")
	var points []int32
	for _, x := range got {
		points = append(points, x.R)
	}
	if err != api.OK || !slices.Equal(points, []int32{'a', 0, 'z', '\'', '#', '"', ' ', 'é', 'é', 0}) || got[1].Kind != api.TSign || got[1].At != 2 || got[8].At != 16 {
		t.Errorf("%v, %v", got, err)
	}
}

// P6.1: characters by their numbers: of one to six digits, of both cases.
func TestNumberedCharacters(t *testing.T) {
	for _, r := range []int32{0, 1, 9, 0xA, 0xF, '\n', '\\', '}', 0x41, 0xFF, 0x100, 0xABC, 0xD7FF, 0xD800, 0xDFFF, 0xFFFD, 0xFFFF, 0x10000, 0xFFFFF, 0x100000, 0x10FFFE, 0x10FFFF} {
		for width := range 7 {
			for _, form := range []string{`'\u{%0*X}`, `'\u{%0*x}`} {
				isOne(t, fmt.Sprintf(form, width, r), api.Token{Kind: api.TChar, R: r})
			}
		}
		isNone(t, fmt.Sprintf(`'\u{%07X}`, r), 0)
	}
	isOne(t, `'\u{aBcDe}`, api.Token{Kind: api.TChar, R: 0xABCDE})
	for _, s := range []string{`'\u{110000}`, `'\u{FFFFFF}`, `'\u{ffffff}`, `'\u{200000}`, `'\u{1000000}`, `'\u{80000041}`, `'\u{100000041}`, `'\u{}`, `'\u{`, `'\u{1`, `'\u{10FFFF`, `'\u{g}`, `'\u{G}`, `'\u{1g}`, `'\u{ 1}`, `'\u{1 }`, `'\u{-1}`, `'\u{+1}`, `'\u{1_1}`, `'\u{0x1}`, `'\u{1]`, "'\\u{1\n}", `'\u1}`, `'\u`, `'\U{1}`, `'\x{1}`, `'\ u{1}`, "'\\u{\xFF}", `'\u{@}`, `'\u{/}`, `'\u{:}`, "'\\u{`}", `'\u{é}`} {
		isNone(t, s, 0)
		isNone(t, `"x"`+s, 3)
	}
	got, _, err := Scan(`'\u{61}-'\u{7A}`)
	if err != api.OK || len(got) != 4 || got[0].R != 'a' || got[1].At != 7 || got[2] != (api.Token{Kind: api.TChar, At: 8, R: 'z'}) {
		t.Errorf("%v, %v", got, err)
	}
	isNone(t, `'\u{61}}`, 7)
}

// P6.1: properties: no blank, no digit within.
func TestProperties(t *testing.T) {
	for _, name := range []string{"a", "z", "A", "Z", "Digit", "noSuch", strings.Repeat("p", 3000)} {
		isOne(t, "{"+name+"}", api.Token{Kind: api.TProp, Text: name})
	}
	for _, s := range []string{"{", "{}", "{a", "{a ", "{ a}", "{a }", "{a1}", "{1}", "{a-b}", "{a_}", "{{a}}", "{a\n}", "{é}", "{\xFF}", "{a]", "{@}", "{[}", "{`}", "{{}"} {
		isNone(t, s, 0)
		isNone(t, "{A}"+s, 3)
	}
	isNone(t, "}", 0)
	isNone(t, "{a}}", 3)
}

// P6.1: the signs that are neither letters nor digits.
func TestSigns(t *testing.T) {
	all := []string{"[", "]", "(", ")", "|", "*", "+", "?", ".", "^", "-", ":", "=", "><", "<>"}
	for _, a := range all {
		isOne(t, a, api.Token{Kind: api.TSign, Text: a})
		for _, b := range all {
			want := []api.Token{{Kind: api.TSign, Text: a}, {Kind: api.TSign, Text: b, At: len(a)}, end(a + b)}
			if got, at, err := Scan(a + b); err != api.OK || at != 0 || !slices.Equal(got, want) {
				t.Errorf("Scan(%q) = %v, %d, %v", a+b, got, at, err)
			}
		}
	}
	for s, at := range map[string]int{"<": 0, ">": 0, "> <": 0, "< >": 0, ">>": 0, "<<": 0, "<=": 0, ">=": 0, "><<": 2, "<>>": 2, "><>": 2, "<><": 2, ">\n<": 0, ">#\n<": 0, "=>": 1, "->": 1, ",": 0, ";": 0, "&": 0, "!": 0, "/": 0, "%": 0, "~": 0, "`": 0, "\\": 0} {
		isNone(t, s, at)
	}
}

// P6.1: what counts for nothing, and line feeds, which count.
func TestBlanks(t *testing.T) {
	for _, s := range []string{"", " ", "\t", "\r", " \t\r ", "#", "# x", "#\r", " #\"", "##", "# '\\u{", "#\xFF\x00", "# $ @ é" + strings.Repeat(" ", 5000), strings.Repeat(" \r\t", 3000)} {
		if got, at, err := Scan(s); err != api.OK || at != 0 || !slices.Equal(got, []api.Token{end(s)}) {
			t.Errorf("Scan(%q) = %v, %d, %v", s, got, at, err)
		}
		isOne(t, s+"\n", api.Token{Kind: api.TLine, At: len(s)})
		isOne(t, "\n"+s, api.Token{Kind: api.TLine})
		isOne(t, "a"+s, api.Token{Kind: api.TIdent, Text: "a"})
	}
	for s, places := range map[string][]int{
		"\n\n": {0, 1, 2}, "\r\n\r\n": {1, 3, 4}, "a#b\nc": {0, 3, 4, 5}, "#\n#": {1, 3}, "a # b # c\n# d\n": {0, 9, 13, 14},
		"a b": {0, 2, 3}, "a\tb\rc": {0, 2, 4, 5}, "a \n b": {0, 2, 4, 5}, "[# ]\n]": {0, 4, 5, 6}, "'#a": {0, 2, 3}, "' a": {0, 2, 3}, `"#"a`: {0, 3, 4},
	} {
		got, at, err := Scan(s)
		var have []int
		for _, x := range got {
			have = append(have, x.At)
		}
		if err != api.OK || at != 0 || !slices.Equal(have, places) {
			t.Errorf("Scan(%q): places %v, %d, %v, want %v", s, have, at, err, places)
		}
	}
	isNone(t, "# a\n@", 4)
	isNone(t, "a\u00A0b", 1)
	isNone(t, "\uFEFFa", 0)
	isNone(t, "a\vb", 1)
	isNone(t, " \x00", 1)
}

// P6.1: the chapter's example, and a source.
func TestKnownTexts(t *testing.T) {
	want := []api.Token{{Kind: api.TChar, R: 'a'}, {Kind: api.TSign, At: 2, Text: "-"}, {Kind: api.TChar, At: 3, R: 'z'}, {Kind: api.TEnd, At: 5}}
	if got, at, err := Scan("'a-'z"); err != api.OK || at != 0 || !slices.Equal(got, want) {
		t.Errorf("%v, %d, %v", got, at, err)
	}
	s := "parent de\r\n$x=[^{Han}'a]+ # letters\n10: $x><()\nskip \"z.\\\"B\\\\\""
	want = []api.Token{
		{Kind: api.TIdent, At: 0, Text: "parent"}, {Kind: api.TIdent, At: 7, Text: "de"}, {Kind: api.TLine, At: 10},
		{Kind: api.TName, At: 11, Text: "x"}, {Kind: api.TSign, At: 13, Text: "="}, {Kind: api.TSign, At: 14, Text: "["}, {Kind: api.TSign, At: 15, Text: "^"},
		{Kind: api.TProp, At: 16, Text: "Han"}, {Kind: api.TChar, At: 21, R: 'a'}, {Kind: api.TSign, At: 23, Text: "]"}, {Kind: api.TSign, At: 24, Text: "+"}, {Kind: api.TLine, At: 35},
		{Kind: api.TNum, At: 36, Text: "10"}, {Kind: api.TSign, At: 38, Text: ":"}, {Kind: api.TName, At: 40, Text: "x"}, {Kind: api.TSign, At: 42, Text: "><"},
		{Kind: api.TSign, At: 44, Text: "("}, {Kind: api.TSign, At: 45, Text: ")"}, {Kind: api.TLine, At: 46},
		{Kind: api.TIdent, At: 47, Text: "skip"}, {Kind: api.TWord, At: 52, Text: `z."B\`}, {Kind: api.TEnd, At: 61},
	}
	if got, at, err := Scan(s); err != api.OK || at != 0 || !slices.Equal(got, want) {
		t.Errorf("%v, %d, %v", got, at, err)
	}
}

// P6.1: the first place counts, whatever is behind it; ahead of it there may
// be much.
func TestFirstPlace(t *testing.T) {
	isNone(t, "@ @", 0)
	isNone(t, "a 01 @", 2)
	isNone(t, `a "b @`, 2)
	isNone(t, "a\n{b @", 2)
	isNone(t, strings.Repeat("a ", 10000)+"$ @", 20000)
	isNone(t, strings.Repeat("'", 5), 4)
}

// The signs may be left at any point, and gone through again meanwhile.
func TestSignsLeft(t *testing.T) {
	const s = "a 'b\n12 # x"
	want, _, _ := Scan(s)
	all := signs(s)
	for most := range len(want) + 1 {
		var got []api.Token
		for sign := range all {
			if len(got) == most {
				break
			}
			got = append(got, sign)
			for again := range all {
				if again != want[0] {
					t.Errorf("gone through again: %v", again)
				}
				break
			}
		}
		if !slices.Equal(got, want[:most]) {
			t.Errorf("the first %d: %v", most, got)
		}
	}
	for sign, err := range signs("@") {
		if sign != (api.Token{}) || err != api.ErrSign {
			t.Errorf("%v, %v", sign, err)
		}
		break
	}
}

// P6.1: a text that is long is read in one go.
func TestLongTexts(t *testing.T) {
	const n = 1 << 20
	for _, c := range []string{"a ", "'é", "[", "\n", "\"w\"", "{P}", "$x ", "7 ", "><", "#\n"} {
		s := strings.Repeat(c, n/len(c))
		got, at, err := Scan(s)
		if err != api.OK || at != 0 || len(got) != n/len(c)+1 || got[len(got)-1] != end(s) {
			t.Errorf("%q: %d signs, %d, %v", c, len(got), at, err)
		}
	}
	for _, c := range []string{`"` + strings.Repeat(`\\`, n), "{" + strings.Repeat("x", n), "$" + strings.Repeat("x", n), strings.Repeat("7", n), `'\u{` + strings.Repeat("0", n)} {
		isNone(t, c, 0)
	}
}
