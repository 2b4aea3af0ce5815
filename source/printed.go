package source

import (
	"iter"
	"strconv"

	"hornbook/api"
	"hornbook/lex"
	"hornbook/regex"
)

// printedLines goes through the lines of which a source is printed, each
// without its line feed, in the chapter's order.
func printedLines(x api.Source) iter.Seq[string] {
	return func(yield func(string) bool) {
		if x.Parent != "" && !yield("parent "+x.Parent) {
			return
		}
		for _, v := range x.Vars {
			if !yield("$" + v.Name + " = " + regex.Print(v.E)) {
				return
			}
		}
		for _, n := range x.Drop {
			if !yield("drop " + strconv.Itoa(n)) {
				return
			}
		}
		for _, rule := range x.Rules {
			if !yield(ruleText(rule)) {
				return
			}
		}
		for _, word := range x.Keep {
			if !yield("keep " + wordText(word)) {
				return
			}
		}
		for _, word := range x.Skip {
			if !yield("skip " + wordText(word)) {
				return
			}
		}
	}
}

func ruleText(rule api.Rule) string {
	between := joinMark
	if rule.Break {
		between = breakMark
	}
	return strconv.Itoa(rule.N) + ": " + regex.Print(rule.Left) + " " + between + " " + regex.Print(rule.Right)
}

// wordText tells a word as lex prints it: with its quotes, and a `\` ahead of
// what would end it.
func wordText(word string) string {
	return lex.Print([]api.Token{{Kind: api.TWord, Text: word}})
}
