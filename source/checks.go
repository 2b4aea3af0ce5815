package source

import (
	"strings"
	"unicode/utf8"

	"hornbook/api"
	"hornbook/regex"
	"hornbook/tag"
)

func isParent(parent string) bool { return parent == "" || tag.Is(parent) && parent != root }

func isVar(v api.Var) bool { return isName(v.Name) && isPlain(v.E) }

func isRule(rule api.Rule) bool {
	return isNumber(rule.N) && isPlain(rule.Left) && isPlain(rule.Right)
}

// isName tells whether a variable can have that name: regex asks the same of
// an NVar.
func isName(name string) bool { return regex.Is(api.Node{Kind: api.NVar, Name: name}) }

// isPlain tells whether e is an expression without variables, not too large.
// (Is is asked first: of what it refuses there can be any number of nodes.)
func isPlain(e api.Node) bool {
	return regex.Is(e) && len(regex.Names(e)) == 0 && regex.Places(e) <= api.MaxPlaces
}

// isNumber tells whether n can be written as a TNum.
func isNumber(n int) bool {
	const most = 9999
	return 0 <= n && n <= most
}

// isWord tells whether a word can be written as a TWord, and is as long as it
// may be.
func isWord(word string) bool {
	return utf8.ValidString(word) && hasWordSize(word) && !strings.Contains(word, "\n")
}

func hasWordSize(word string) bool {
	return word != "" && utf8.RuneCountInString(word) <= api.MaxWord
}

// isRow tells whether a list has no more than so many, each of them once: each
// could come behind those ahead of it.
func isRow[T comparable](list []T, most int) bool {
	for i, one := range list {
		if roomFor(one, list[:i], most) != api.OK {
			return false
		}
	}
	return true
}

func areAll[T any](list []T, such func(T) bool) bool {
	for _, one := range list {
		if !such(one) {
			return false
		}
	}
	return true
}
