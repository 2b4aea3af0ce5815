package regex

import (
	"strings"

	"hornbook/api"
	"hornbook/props"
	"hornbook/uniset"
)

// reader reads signs by the chapter's grammar, a method a line of it. Where a
// method answers an error, at is the number of the sign that is to be told, and
// what else it answers is nothing.
type reader struct {
	list []api.Token
	at   int // the number of the sign that is next
	open int // the `(` that wait for their `)`
}

// signAt tells the sign with a number; where the list has none it is a TEnd.
func signAt(list []api.Token, n int) api.Token {
	if n < 0 || n >= len(list) {
		return api.Token{Kind: api.TEnd}
	}
	return list[n]
}

func (r *reader) next() api.Token { return signAt(r.list, r.at) }

// take goes past the next sign, if it is that one.
func (r *reader) take(text string) bool {
	if !isSign(r.next(), text) {
		return false
	}
	r.at++
	return true
}

func isSign(sign api.Token, text string) bool {
	return sign.Kind == api.TSign && sign.Text == text
}

// alt reads alternatives.
func (r *reader) alt() (api.Node, api.Errno) {
	e, err := r.cat()
	for err == api.OK && r.take("|") {
		var right api.Node
		right, err = r.cat()
		e = twoOf(api.NAlt, e, right)
	}
	return e, err
}

// cat reads a row.
func (r *reader) cat() (api.Node, api.Errno) {
	e, err := r.rep()
	for err == api.OK && beginsPrim(r.next()) {
		var right api.Node
		right, err = r.rep()
		e = twoOf(api.NCat, e, right)
	}
	return e, err
}

// twoOf tells a node with two kids, at the place of the first one.
func twoOf(kind int, left, right api.Node) api.Node {
	return api.Node{Kind: kind, At: left.At, Kids: []api.Node{left, right}}
}

// rep reads what may be repeated, and the signs that say so.
func (r *reader) rep() (api.Node, api.Errno) {
	e, err := r.prim()
	for err == api.OK {
		kind := repeating(r.next())
		if kind == 0 {
			break
		}
		r.at++
		e = api.Node{Kind: kind, At: e.At, Kids: []api.Node{e}}
	}
	return e, err
}

// repeating tells the kind of node that a sign makes of what is ahead of it: 0,
// if it makes none.
func repeating(sign api.Token) int {
	switch {
	case isSign(sign, "*"):
		return api.NStar
	case isSign(sign, "+"):
		return api.NPlus
	case isSign(sign, "?"):
		return api.NOpt
	}
	return 0
}

// beginsPrim tells whether a sign is one that prim can begin with.
func beginsPrim(sign api.Token) bool {
	switch sign.Kind {
	case api.TName, api.TChar, api.TProp:
		return true
	}
	return isSign(sign, ".") || isSign(sign, "(") || isSign(sign, "[")
}

// prim reads what binds most closely.
func (r *reader) prim() (api.Node, api.Errno) {
	switch sign := r.next(); {
	case sign.Kind == api.TName:
		r.at++
		return api.Node{Kind: api.NVar, At: sign.At, Name: strings.Clone(sign.Text)}, api.OK
	case sign.Kind == api.TChar:
		return r.single(uniset.Norm(oneRange(sign, sign)))
	case sign.Kind == api.TProp:
		return r.single(props.Set(sign.Text))
	case isSign(sign, "."):
		return r.single(props.Set("Any"))
	case isSign(sign, "("):
		return r.round()
	case isSign(sign, "["):
		return r.square()
	}
	return api.Node{}, api.ErrForm
}

// single goes past a sign that stands for a set, unless it stands for none.
func (r *reader) single(set []api.Range, err api.Errno) (api.Node, api.Errno) {
	if err != api.OK {
		return api.Node{}, err
	}
	at := r.next().At
	r.at++
	return api.Node{Kind: api.NSet, At: at, Set: set}, api.OK
}

// round reads what stands in `( )`: it leaves no node of its own.
func (r *reader) round() (api.Node, api.Errno) {
	if r.open == api.MaxNest {
		return api.Node{}, api.ErrDeep
	}
	at := r.next().At
	r.at++
	if r.take(")") {
		return api.Node{Kind: api.NNone, At: at}, api.OK
	}
	r.open++
	e, err := r.alt()
	if err != api.OK {
		return api.Node{}, err
	}
	if !r.take(")") {
		return api.Node{}, api.ErrForm
	}
	r.open--
	return e, api.OK
}

// square reads what stands in `[ ]`.
func (r *reader) square() (api.Node, api.Errno) {
	at := r.next().At
	r.at++
	isNot := r.take("^")
	var all []api.Range
	for !isSign(r.next(), "]") {
		some, err := r.item()
		if err != api.OK {
			return api.Node{}, err
		}
		all = append(all, some...)
	}
	set, err := uniset.Norm(all)
	if err == api.OK && isNot {
		set, err = uniset.Norm(uniset.Not(set)) // it can have one range more than the set has
	}
	if err != api.OK {
		return api.Node{}, err
	}
	r.at++
	return api.Node{Kind: api.NSet, At: at, Set: set}, api.OK
}

// item reads one of what stands in `[ ]`.
func (r *reader) item() ([]api.Range, api.Errno) {
	switch sign := r.next(); sign.Kind {
	case api.TChar:
		return r.span()
	case api.TProp:
		set, err := props.Set(sign.Text)
		if err == api.OK {
			r.at++
		}
		return set, err
	}
	return nil, api.ErrForm
}

// span reads a character, or the first and the last one of a range. Whether
// they are such is asked behind them, and told at the first.
func (r *reader) span() ([]api.Range, api.Errno) {
	from, first := r.at, r.next()
	last := first
	r.at++
	if r.take("-") {
		last = r.next()
		if last.Kind != api.TChar {
			return nil, api.ErrForm
		}
		r.at++
	}
	set, err := uniset.Norm(oneRange(first, last))
	if err != api.OK {
		r.at = from
	}
	return set, err
}

func oneRange(first, last api.Token) []api.Range {
	return []api.Range{{Lo: first.R, Hi: last.R}}
}
