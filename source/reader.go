package source

import (
	"iter"
	"slices"
	"strconv"

	"hornbook/api"
	"hornbook/regex"
)

// What stands between the sides of a rule: no break, a break.
const (
	joinMark  = "><"
	breakMark = "<>"
)

// lines goes through the lines of a source: the signs of each, and last the one
// that ends it, so that what is missing in a line has a place. (lex ends every
// row of signs with a TEnd, so the last line has such a sign too.)
func lines(signs []api.Token) iter.Seq[[]api.Token] {
	return func(yield func([]api.Token) bool) {
		rest := signs
		for len(rest) > 0 {
			size := slices.IndexFunc(rest, endsLine) + 1
			if !yield(rest[:size]) {
				return
			}
			rest = rest[size:]
		}
	}
}

func endsLine(sign api.Token) bool { return sign.Kind == api.TLine || sign.Kind == api.TEnd }

func isMark(sign api.Token, text string) bool {
	return sign.Kind == api.TSign && sign.Text == text
}

// reader reads one line. Behind an error its methods read nothing, and what they
// answer counts for nothing: so a form is written sign by sign, as the chapter
// has it.
type reader struct {
	line []api.Token // the last one ends it, and is never gone past
	at   int         // the number of the sign that is next, or, behind an error, that is told
	err  api.Errno
}

func (r *reader) next() api.Token { return r.line[r.at] }

// readInto reads the line, and adds what it says to x.
func (r *reader) readInto(x *api.Source) {
	switch first := r.next(); {
	case endsLine(first):
	case first.Kind == api.TName:
		r.variable(x)
	case first.Kind == api.TNum:
		r.rule(x)
	case first.Kind == api.TIdent:
		r.keyword(x, first.Text)
	default:
		r.err = api.ErrForm
	}
}

// variable reads `TName = expression`.
func (r *reader) variable(x *api.Source) {
	name := r.take(api.TName)
	r.takeMark("=")
	e := r.expression()
	if r.isEnded() {
		r.tell(addVar(x, api.Var{Name: name, E: e}))
	}
}

// rule reads `TNum : [ expression ] >< [ expression ]`, or with `<>`.
func (r *reader) rule(x *api.Source) {
	var rule api.Rule
	rule.N = r.number()
	r.takeMark(":")
	rule.Left = r.side()
	rule.Break = isMark(r.next(), breakMark)
	if rule.Break {
		r.takeMark(breakMark)
	} else {
		r.takeMark(joinMark)
	}
	rule.Right = r.side()
	if r.isEnded() {
		r.tell(addRule(x, rule))
	}
}

// keyword reads a line that begins with that word.
func (r *reader) keyword(x *api.Source, word string) {
	switch word {
	case "parent":
		r.take(api.TIdent)
		if ident := r.take(api.TIdent); r.isEnded() {
			r.tell(addParent(x, ident))
		}
	case "drop":
		r.take(api.TIdent)
		if n := r.number(); r.isEnded() {
			r.tell(addDrop(x, n))
		}
	case "skip":
		r.word(&x.Skip)
	case "keep":
		r.word(&x.Keep)
	default:
		r.err = api.ErrForm
	}
}

// word reads a keyword and the word that it puts into list.
func (r *reader) word(list *[]string) {
	r.take(api.TIdent)
	if word := r.take(api.TWord); r.isEnded() {
		r.tell(addWord(list, word))
	}
}

// take goes past a sign of that kind, and tells its text.
func (r *reader) take(kind int) string {
	if r.err != api.OK {
		return ""
	}
	sign := r.next()
	if sign.Kind != kind {
		r.err = api.ErrForm
		return ""
	}
	r.at++
	return sign.Text
}

// takeMark goes past that TSign.
func (r *reader) takeMark(text string) {
	if r.err != api.OK {
		return
	}
	if !isMark(r.next(), text) {
		r.err = api.ErrForm
		return
	}
	r.at++
}

// number goes past a number, and tells it.
func (r *reader) number() int {
	n, err := strconv.Atoi(r.take(api.TNum))
	if err != nil { // there was no number: take has told so
		return 0
	}
	return n
}

// expression goes past as long an expression as there is.
func (r *reader) expression() api.Node {
	if r.err != api.OK {
		return api.Node{}
	}
	var e api.Node
	e, r.at, r.err = regex.Read(r.line, r.at)
	return e
}

// side reads one side of a rule, which needn't be there: then the next sign is
// the one behind it. (Whether that may stand there is asked behind.)
func (r *reader) side() api.Node {
	if sign := r.next(); endsLine(sign) || isMark(sign, joinMark) || isMark(sign, breakMark) {
		return api.Node{Kind: api.NNone}
	}
	return r.expression()
}

// isEnded tells whether the line was read well and has no other sign.
func (r *reader) isEnded() bool {
	if r.err == api.OK && !endsLine(r.next()) {
		r.err = api.ErrForm
	}
	return r.err == api.OK
}

// tell takes what is told of the line as a whole: its place is the first sign.
func (r *reader) tell(err api.Errno) { r.at, r.err = 0, err }
