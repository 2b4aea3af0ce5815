package regex

import (
	"strings"

	"hornbook/api"
	"hornbook/lex"
)

// write prints an expression. (It has few nodes: Is tells so.)
func write(out *strings.Builder, e api.Node) {
	switch e.Kind {
	case api.NSet:
		writeSet(out, e.Set)
	case api.NVar:
		out.WriteString("$" + e.Name)
	case api.NNone:
		out.WriteString("()")
	case api.NCat:
		writeKids(out, e.Kids, " ", ")")
	case api.NAlt:
		writeKids(out, e.Kids, " | ", ")")
	case api.NStar:
		writeKids(out, e.Kids, "", ")*")
	case api.NPlus:
		writeKids(out, e.Kids, "", ")+")
	case api.NOpt:
		writeKids(out, e.Kids, "", ")?")
	}
}

// writeKids prints kids in brackets, so that nothing beside them binds closer.
func writeKids(out *strings.Builder, kids []api.Node, between, behind string) {
	out.WriteByte('(')
	for i, kid := range kids {
		if i > 0 {
			out.WriteString(between)
		}
		write(out, kid)
	}
	out.WriteString(behind)
}

// writeSet prints the ranges of a set, a blank between.
func writeSet(out *strings.Builder, set []api.Range) {
	out.WriteByte('[')
	for i, some := range set {
		if i > 0 {
			out.WriteByte(' ')
		}
		out.WriteString(charText(some.Lo))
		if some.Lo != some.Hi {
			out.WriteString("-" + charText(some.Hi))
		}
	}
	out.WriteByte(']')
}

// charText tells a code point as lex prints it.
func charText(point int32) string {
	return lex.Print([]api.Token{{Kind: api.TChar, R: point}})
}
