package lex

import (
	"strconv"
	"strings"

	"hornbook/api"
	"hornbook/utf"
)

// first tells the sign at which s begins, and its size in bytes: 0, if it
// begins with none. At is left to the caller. (s isn't empty.)
func first(s string) (api.Token, int) {
	switch c := s[0]; {
	case c == '\n':
		return api.Token{Kind: api.TLine}, 1
	case c == '$':
		return name(s)
	case isDigit(c):
		return number(s)
	case isLetter(c):
		return ident(s)
	case c == '"':
		return word(s)
	case c == '\'':
		return char(s)
	case c == '{':
		return prop(s)
	}
	return mark(s)
}

// name reads `$` and a name. One that is too long is not cut: it is none.
func name(s string) (api.Token, int) {
	size := run(s[1:], isAlnum)
	if size == 0 || size > api.MaxName || isDigit(s[1]) {
		return api.Token{}, 0
	}
	return named(api.TName, s[1:1+size]), 1 + size
}

// number reads digits. A nought alone is one; ahead of others it is none, so
// that a number is written in one way.
func number(s string) (api.Token, int) {
	const most = 4
	size := run(s, isDigit)
	if size > most || size > 1 && s[0] == '0' {
		return api.Token{}, 0
	}
	return named(api.TNum, s[:size]), size
}

// ident reads a letter and what goes on like it.
func ident(s string) (api.Token, int) {
	size := run(s, isIdent)
	return named(api.TIdent, s[:size]), size
}

// word reads a word with its quotes.
func word(s string) (api.Token, int) {
	var text []byte
	for i := 1; i < len(s) && s[i] != '\n'; i++ {
		switch s[i] {
		case '"':
			if !utf.Good(text) {
				return api.Token{}, 0
			}
			return api.Token{Kind: api.TWord, Text: string(text)}, i + 1
		case '\\':
			i++
			if i == len(s) || s[i] != '"' && s[i] != '\\' {
				return api.Token{}, 0
			}
		}
		text = append(text, s[i])
	}
	return api.Token{}, 0
}

// char reads a character, as it stands or by its number.
func char(s string) (api.Token, int) {
	const opening, longest = `'\u{`, 4
	if rest, ok := strings.CutPrefix(s, opening); ok {
		point, size := hexPoint(rest)
		if size == 0 {
			return api.Token{}, 0
		}
		return api.Token{Kind: api.TChar, R: point}, len(opening) + size
	}
	next := []byte(s[1:min(len(s), 1+longest)])
	points, starts := utf.Runes(next)
	if len(points) == 0 || points[0] == '\n' || points[0] == '\\' {
		return api.Token{}, 0
	}
	size := utf.At(starts, len(next), 1)
	if !utf.Good(next[:size]) { // U+FFFD may stand there itself: the code point alone doesn't tell
		return api.Token{}, 0
	}
	return api.Token{Kind: api.TChar, R: points[0]}, 1 + size
}

// hexPoint reads the number of a code point and the `}` behind it, and tells
// the size of both: 0, if they aren't there.
func hexPoint(s string) (int32, int) {
	const most = 6
	size := run(s, isHex)
	if size == 0 || size > most || !strings.HasPrefix(s[size:], "}") {
		return 0, 0
	}
	point, err := strconv.ParseInt(s[:size], 16, 32)
	if err != nil || point > api.MaxRune {
		return 0, 0
	}
	return int32(point), size + 1
}

// prop reads a property with its braces.
func prop(s string) (api.Token, int) {
	size := run(s[1:], isLetter)
	if size == 0 || !strings.HasPrefix(s[1+size:], "}") {
		return api.Token{}, 0
	}
	return named(api.TProp, s[1:1+size]), size + 2
}

// mark reads a TSign: those of two bytes have none within them.
func mark(s string) (api.Token, int) {
	const single = "[]()|*+?.^-:="
	size := 1
	if strings.HasPrefix(s, "><") || strings.HasPrefix(s, "<>") {
		size = 2
	} else if strings.IndexByte(single, s[0]) < 0 {
		return api.Token{}, 0
	}
	return named(api.TSign, s[:size]), size
}

// named tells a sign with a text of its own: what is answered shares nothing
// with what was handed in.
func named(kind int, text string) api.Token {
	return api.Token{Kind: kind, Text: strings.Clone(text)}
}

// run tells how many bytes at the beginning of s are such.
func run(s string, such func(byte) bool) int {
	n := 0
	for n < len(s) && such(s[n]) {
		n++
	}
	return n
}

func isLetter(c byte) bool { return 'a' <= c && c <= 'z' || 'A' <= c && c <= 'Z' }

func isDigit(c byte) bool { return '0' <= c && c <= '9' }

func isAlnum(c byte) bool { return isLetter(c) || isDigit(c) }

func isIdent(c byte) bool { return isAlnum(c) || c == '-' || c == '_' }

func isHex(c byte) bool { return isDigit(c) || 'a' <= c && c <= 'f' || 'A' <= c && c <= 'F' }
