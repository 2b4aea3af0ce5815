package match

import (
	"iter"

	"hornbook/api"
	"hornbook/uniset"
)

// part is a node of an expression by which a text is read, one code point after
// the other. It keeps no places: only whether something that it matches ends
// where the reading is. So it costs no more to read on when there are many ways
// to match what was read.
type part struct {
	kind  int
	set   []api.Range
	kids  []part // in the order in which they are read
	null  bool   // it matches the empty text
	ended bool   // some text that it matches, not the empty one, ends here
	going bool   // it, or a part of it, has ended
}

// forward tells the part that reads what e matches from the beginning on.
func forward(e api.Node) part { return partOf(e.Kind, e.Set, partsOf(e.Kids, forward)) }

// backward tells the part that reads what e matches from the end on.
func backward(e api.Node) part {
	kids := partsOf(e.Kids, backward)
	if e.Kind == api.NCat {
		kids[0], kids[1] = kids[1], kids[0]
	}
	return partOf(e.Kind, e.Set, kids)
}

func partsOf(kids []api.Node, how func(api.Node) part) []part {
	var parts []part
	for _, kid := range kids {
		parts = append(parts, how(kid))
	}
	return parts
}

func partOf(kind int, set []api.Range, kids []part) part {
	p := part{kind: kind, set: set, kids: kids}
	switch kind {
	case api.NNone, api.NStar, api.NOpt:
		p.null = true
	case api.NCat:
		p.null = kids[0].null && kids[1].null
	case api.NAlt:
		p.null = kids[0].null || kids[1].null
	case api.NPlus:
		p.null = kids[0].null
	}
	return p
}

// lengths goes through the lengths, rising, of what e matches of the code points
// that points gives, from the first one on; how is forward or backward, as they
// are.
func lengths(e api.Node, how func(api.Node) part, points iter.Seq2[int, int32]) iter.Seq[int] {
	return func(yield func(int) bool) {
		reading := how(e)
		if reading.null && !yield(0) {
			return
		}
		length := 0
		for _, r := range points {
			reading.read(r, length == 0)
			length++
			if reading.ended && !yield(length) || !reading.going {
				return
			}
		}
	}
}

// read reads one more code point; begins tells whether a text that p matches
// may begin with it. Where none may and none goes on, nothing changes below: so
// a great expression costs no more than what is going of it.
func (p *part) read(r int32, begins bool) {
	if !begins && !p.going {
		return
	}
	switch p.kind {
	case api.NSet:
		p.ended = begins && uniset.Has(p.set, r)
	case api.NCat:
		p.readBoth(r, begins)
	case api.NAlt:
		p.kids[0].read(r, begins)
		p.kids[1].read(r, begins)
		p.ended = p.kids[0].ended || p.kids[1].ended
	case api.NStar, api.NPlus:
		p.kids[0].read(r, begins || p.kids[0].ended)
		p.ended = p.kids[0].ended
	case api.NOpt:
		p.kids[0].read(r, begins)
		p.ended = p.kids[0].ended
	}
	p.going = p.ended
	for i := range p.kids {
		p.going = p.going || p.kids[i].going
	}
}

// readBoth reads one more code point by two, one behind the other.
func (p *part) readBoth(r int32, begins bool) {
	first, second := &p.kids[0], &p.kids[1]
	// Asked ahead of reading: what ends with this code point is too late for it.
	follows := begins && first.null || first.ended
	first.read(r, begins)
	second.read(r, follows)
	p.ended = second.ended || first.ended && second.null
}
