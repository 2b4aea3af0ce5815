package tag

import (
	"iter"
	"strings"
)

// Kinds of subtags, in the order in which they stand; none is ahead of all.
const (
	none = iota
	language
	script
	region
	variant
)

// subtags goes through what stands between the signs that part subtags, where
// nothing stands too: the first one is there always.
func subtags(s string) iter.Seq[string] {
	return func(yield func(string) bool) {
		rest := s
		for {
			end := strings.IndexAny(rest, "-_")
			if end < 0 {
				yield(rest)
				return
			}
			if !yield(rest[:end]) {
				return
			}
			rest = rest[end+1:]
		}
	}
}

// kindBehind tells what a subtag is behind one of the kind last: none, if it
// can't stand there. (Two letters are a language or a region, by their place.)
func kindBehind(last int, subtag string) int {
	switch {
	case last == none && isLanguage(subtag):
		return language
	case last == none:
		return none
	case last < script && isScript(subtag):
		return script
	case last < region && isRegion(subtag):
		return region
	case isVariant(subtag):
		return variant
	}
	return none
}

func isLanguage(s string) bool { return isRun(s, 2, 3, isLetter) }

func isScript(s string) bool { return isRun(s, 4, 4, isLetter) }

func isRegion(s string) bool { return isRun(s, 2, 2, isLetter) || isRun(s, 3, 3, isDigit) }

func isVariant(s string) bool {
	return isRun(s, 5, 8, isAlnum) || isRun(s, 4, 4, isAlnum) && isDigit(s[0])
}

// isRun tells whether s has from least to most bytes, all of them such.
func isRun(s string, least, most int, such func(byte) bool) bool {
	if len(s) < least || len(s) > most {
		return false
	}
	for i := range len(s) {
		if !such(s[i]) {
			return false
		}
	}
	return true
}

func isLetter(c byte) bool { return 'a' <= c && c <= 'z' || 'A' <= c && c <= 'Z' }

func isDigit(c byte) bool { return '0' <= c && c <= '9' }

func isAlnum(c byte) bool { return isLetter(c) || isDigit(c) }

// formed tells a subtag of that kind as a canonical tag has it.
func formed(subtag string, kind int) string {
	small := strings.ToLower(subtag)
	switch kind {
	case script:
		return strings.ToUpper(small[:1]) + small[1:]
	case region:
		return strings.ToUpper(small)
	}
	return small
}
