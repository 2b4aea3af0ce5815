package lex

import (
	"fmt"
	"math/rand"
	"regexp"
	"strings"
	"unicode/utf8"

	"hornbook/api"
)

// shape: how a kind of the chapter's table is written, as many as there are,
// and whether one that is written so is a sign.
type shape struct {
	kind int
	like *regexp.Regexp
	read func(string) (api.Token, bool)
}

// shapes is the chapter's table.
func shapes() []shape {
	text := func(kind, ahead, behind int) func(string) (api.Token, bool) {
		return func(s string) (api.Token, bool) {
			return api.Token{Kind: kind, Text: s[ahead : len(s)-behind]}, true
		}
	}
	number := regexp.MustCompile(`^([1-9][0-9]?[0-9]?[0-9]?|0)$`)
	return []shape{
		{api.TLine, regexp.MustCompile(`^\n$`), func(string) (api.Token, bool) { return api.Token{Kind: api.TLine}, true }},
		{api.TName, regexp.MustCompile(`^\$[a-zA-Z][a-zA-Z0-9]*$`), func(s string) (api.Token, bool) {
			return api.Token{Kind: api.TName, Text: s[1:]}, len(s) <= 21
		}},
		{api.TNum, regexp.MustCompile(`^[0-9]+$`), func(s string) (api.Token, bool) {
			return api.Token{Kind: api.TNum, Text: s}, number.MatchString(s)
		}},
		{api.TIdent, regexp.MustCompile(`^[a-zA-Z][a-zA-Z0-9_-]*$`), text(api.TIdent, 0, 0)},
		{api.TWord, regexp.MustCompile(`^"([^"\\\n]|\\"|\\\\)*"$`), func(s string) (api.Token, bool) {
			between := strings.NewReplacer(`\"`, `"`, `\\`, `\`).Replace(s[1 : len(s)-1])
			return api.Token{Kind: api.TWord, Text: between}, utf8.ValidString(s)
		}},
		{api.TChar, regexp.MustCompile(`^'[^\\\n]$`), func(s string) (api.Token, bool) {
			r, _ := utf8.DecodeRuneInString(s[1:])
			return api.Token{Kind: api.TChar, R: r}, utf8.ValidString(s)
		}},
		{api.TChar, regexp.MustCompile(`^'\\u\{[0-9A-Fa-f]{1,6}\}$`), func(s string) (api.Token, bool) {
			var n int32
			fmt.Sscanf(s, `'\u{%x}`, &n)
			return api.Token{Kind: api.TChar, R: n}, n <= 0x10FFFF
		}},
		{api.TProp, regexp.MustCompile(`^\{[a-zA-Z]+\}$`), text(api.TProp, 1, 1)},
		{api.TSign, regexp.MustCompile(`^([\[\]()|*+?.^:=-]|><|<>)$`), text(api.TSign, 0, 0)},
	}
}

// definedFirst: the longest piece at the beginning of s that is written as a
// kind is, if it is a sign.
func definedFirst(table []shape, s string) (api.Token, int, bool) {
	for size := len(s); size > 0; size-- {
		for _, k := range table {
			if k.like.MatchString(s[:size]) {
				sign, ok := k.read(s[:size])
				return sign, size, ok
			}
		}
	}
	return api.Token{}, 0, false
}

// definedScan: P6.1, sign by sign.
func definedScan(table []shape, s string) ([]api.Token, int, api.Errno) {
	blank := regexp.MustCompile(`^([ \t\r]|#[^\n]*)`)
	var out []api.Token
	for at := 0; at < len(s); {
		if b := blank.FindString(s[at:]); b != "" {
			at += len(b)
			continue
		}
		sign, size, ok := definedFirst(table, s[at:])
		if !ok {
			return nil, at, api.ErrSign
		}
		sign.At = at
		out = append(out, sign)
		at += size
	}
	return append(out, api.Token{Kind: api.TEnd, At: len(s)}), 0, api.OK
}

// definedPrint: P6.2: all of them with blanks between, then none beside a line
// feed.
func definedPrint(l []api.Token) string {
	var lines []string
	var line []string
	for _, x := range l {
		switch x.Kind {
		case api.TLine:
			lines, line = append(lines, strings.Join(line, " ")), nil
		case api.TName:
			line = append(line, "$"+x.Text)
		case api.TNum, api.TIdent, api.TSign:
			line = append(line, x.Text)
		case api.TWord:
			line = append(line, `"`+strings.NewReplacer(`"`, `\"`, `\`, `\\`).Replace(x.Text)+`"`)
		case api.TChar:
			line = append(line, fmt.Sprintf(`'\u{%X}`, x.R))
		case api.TProp:
			line = append(line, "{"+x.Text+"}")
		}
	}
	return strings.Join(append(lines, strings.Join(line, " ")), "\n")
}

// pieces are texts of which others are made: signs, what is near to signs, and
// what counts for nothing.
func pieces() []string {
	return []string{
		" ", "\t", "\r", "\n", "#", "# x", "# \"\n", "\v", "\x00", "\f",
		"$", "$a", "$Zz9", "$" + strings.Repeat("n", 20), "$" + strings.Repeat("n", 21), "$1", "$_",
		"0", "1", "9", "00", "12", "999", "1234", "12345", "10000",
		"a", "z", "A", "Z", "g", "F", "_", "-", "a-b_", "parent", "drop", "é",
		`"`, `""`, `"a"`, `"\""`, `"\\"`, `\`, `\"`, `\\`, `"é`, "\"\xFF\"", "\"\n\"",
		"'", "''", "'a", "'\\", "'\n", "' ", "'é", "'€", "'😀", "'\uFFFD", "'\xC3", "'\xE2\x82", "\xAC",
		`'\u{`, `'\u{0}`, `'\u{61}`, `'\u{10FFFF}`, `'\u{110000}`, `'\u{d800}`, `'\u{0000041}`, `'\u{}`, `u`,
		"{", "}", "{A}", "{Digit}", "{a1}", "{}", "{ a}",
		"[", "]", "(", ")", "|", "*", "+", "?", ".", "^", ":", "=", "><", "<>", "<", ">", ";", ",", "@", "~", "\x7F", "\xFF",
	}
}

// texts tells all pieces and pairs of them, all short texts of single bytes
// that signs are made of, and many longer ones.
func texts() []string {
	out := []string{""}
	parts := pieces()
	for _, a := range parts {
		out = append(out, a)
		for _, b := range parts {
			out = append(out, a+b)
		}
	}
	single := []string{"$", "a", "0", "7", "-", "_", `"`, `\`, "'", "{", "}", "u", "<", ">", "[", " ", "\n", "#", "\xC3", "\xA9"}
	for _, a := range single {
		for _, b := range single {
			for _, c := range single {
				out = append(out, a+b+c)
			}
		}
	}
	source := rand.New(rand.NewSource(6))
	for range 3000 {
		var b strings.Builder
		for range source.Intn(9) {
			b.WriteString(parts[source.Intn(len(parts))])
		}
		out = append(out, b.String())
	}
	return out
}

// rows tells lists of signs that a text can have, without their places, and
// with a TEnd behind them.
func rows() [][]api.Token {
	signs := everySign()
	source := rand.New(rand.NewSource(7))
	var out [][]api.Token
	for _, a := range signs {
		out = append(out, []api.Token{a, {}})
		for _, b := range signs {
			out = append(out, []api.Token{a, b, {}})
		}
	}
	for range 2000 {
		var row []api.Token
		for range source.Intn(20) {
			row = append(row, signs[source.Intn(len(signs))])
		}
		out = append(out, append(row, api.Token{}))
	}
	return out
}

// everySign tells signs of every kind.
func everySign() []api.Token {
	out := []api.Token{{Kind: api.TLine}}
	put := func(kind int, texts ...string) {
		for _, text := range texts {
			out = append(out, api.Token{Kind: kind, Text: text})
		}
	}
	put(api.TName, "a", "Z", "a1", strings.Repeat("x", 20), "parent")
	put(api.TNum, "0", "1", "10", "9999")
	put(api.TIdent, "a", "Z", "parent", "en-GB", "a_", "a-", "x1", strings.Repeat("long-", 500))
	put(api.TWord, "", "a", `"`, `\`, `\"`, `"\`, `\\`, "#", "'", " ", "a b", "\t\r", "\x00", "é€😀\uFFFD", "u{61}", "$a", strings.Repeat("é", 100))
	put(api.TProp, "a", "Digit", "Z", strings.Repeat("L", 100))
	put(api.TSign, "[", "]", "(", ")", "|", "*", "+", "?", ".", "^", "-", ":", "=", "><", "<>")
	for _, r := range []int32{0, 1, 9, 10, 13, ' ', '#', '"', '\'', '\\', 'a', '}', 0xFF, 0xD7FF, 0xD800, 0xDFFF, 0xE000, 0xFFFD, 0xFFFF, 0x10000, 0x10FFFE, 0x10FFFF} {
		out = append(out, api.Token{Kind: api.TChar, R: r})
	}
	return out
}
