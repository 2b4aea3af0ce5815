package lex

import (
	"strconv"
	"strings"

	"hornbook/api"
)

// isPrinted tells whether a kind is one of which something is printed.
func isPrinted(kind int) bool { return api.TEnd < kind && kind <= api.TIdent }

// printed tells a sign by itself, of a kind that is printed.
func printed(sign api.Token) string {
	switch sign.Kind {
	case api.TLine:
		return "\n"
	case api.TName:
		return "$" + sign.Text
	case api.TWord:
		return `"` + quoted(sign.Text) + `"`
	case api.TChar:
		return `'\u{` + hexText(sign.R) + "}"
	case api.TProp:
		return "{" + sign.Text + "}"
	}
	return sign.Text
}

// quoted puts a `\` ahead of what would end a word or begin such a pair.
func quoted(text string) string {
	var out strings.Builder
	for i := range len(text) { // bytes, not code points: what is ill-formed stays as it is
		if text[i] == '"' || text[i] == '\\' {
			out.WriteByte('\\')
		}
		out.WriteByte(text[i])
	}
	return out.String()
}

// hexText tells a number in capital hexadecimal digits.
func hexText(point int32) string {
	return strings.ToUpper(strconv.FormatInt(int64(point), 16))
}
