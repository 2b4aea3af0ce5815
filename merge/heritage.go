package merge

import (
	"strings"

	"hornbook/api"
)

// heritage: what the sources so far have made. Its rules and words are those of
// the sources themselves: only what is told of it is new memory.
type heritage struct {
	rules sorted[int, api.Rule]
	words sorted[string, struct{}]
}

// overrule lets a source take away and bring what it has. What it brings comes
// last, so it never takes away its own.
func (h *heritage) overrule(x api.Source) {
	for _, n := range x.Drop {
		h.rules.drop(n)
	}
	for _, rule := range x.Rules {
		h.rules.put(rule.N, rule)
	}
	for _, word := range x.Keep {
		h.words.drop(word)
	}
	for _, word := range x.Skip {
		h.words.put(word, struct{}{})
	}
}

func (h *heritage) isTooMuch() bool {
	return h.rules.size() > api.MaxRules || h.words.size() > api.MaxSkips
}

func (h *heritage) book() api.Book {
	var b api.Book
	for n, rule := range h.rules.rising() {
		b.Rules = append(b.Rules, api.Rule{N: n, Break: rule.Break, Left: placeless(rule.Left), Right: placeless(rule.Right)})
	}
	for word := range h.words.rising() {
		b.Skip = append(b.Skip, strings.Clone(word))
	}
	return b
}
