package chain

import (
	"cmp"
	"maps"
	"slices"
)

// link: the parent that was named for somebody, if one was.
type link[K any] struct {
	parent  K
	isNamed bool
}

// parents: those that are there, each with its link. One that was never told
// anything has nobody.
type parents[K cmp.Ordered] struct {
	links map[K]link[K]
}

func (p *parents[K]) set(one K, to link[K]) {
	if p.links == nil {
		p.links = map[K]link[K]{}
	}
	p.links[one] = to
}

func (p *parents[K]) drop(one K) { delete(p.links, one) }

// of tells the link of one, and whether it is there.
func (p *parents[K]) of(one K) (link[K], bool) {
	to, isThere := p.links[one]
	return to, isThere
}

// rising tells all that are there, each above the one ahead of it.
func (p *parents[K]) rising() []K { return slices.Sorted(maps.Keys(p.links)) }

func (p *parents[K]) copied() parents[K] { return parents[K]{maps.Clone(p.links)} }
