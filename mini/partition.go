package mini

import (
	"iter"
	"slices"

	"hornbook/subset"
)

// group: the number of one of the sets of a partition.
type group int

// partition: sets of states, each state in one of them.
type partition struct {
	sets []set[int]
	of   []group    // of each state the set that has it
	todo set[group] // those by which the others are still to be split
	met  set[group] // those that have states of the part by which they are being split
	part []set[int] // of each of them these states
}

// refined tells the sets of states that are alike. States that accept are split
// off first; then, if from some of a set a class leads to a certain set and from
// others of it not, it is split. Of the two sets that come of one the smaller
// one is enough for what is still to be done: so each state is in few of them,
// however many sets there come to be.
func refined(d *subset.DFA) *partition {
	p := whole(d.Len())
	p.split(accepting(d))
	origins := originsOf(d)
	for next, ok := p.todo.take(); ok; next, ok = p.todo.take() {
		targets := slices.Collect(p.sets[next].all()) // the set may be split by itself
		for class := range d.Classes() {
			p.split(origins.by(class, targets))
		}
	}
	return p
}

// whole tells the partition in which so many states are in one set.
func whole(states int) *partition {
	p := &partition{sets: make([]set[int], 1), of: make([]group, states), part: make([]set[int], 1)}
	for state := range states {
		p.sets[0].put(state)
	}
	return p
}

// accepting goes through the states that accept.
func accepting(d *subset.DFA) iter.Seq[int] {
	return func(yield func(int) bool) {
		for state := range d.Len() {
			if d.Accept(state) && !yield(state) {
				return
			}
		}
	}
}

// split splits each set that has some states of a part, and others.
func (p *partition) split(part iter.Seq[int]) {
	for state := range part {
		p.met.put(p.of[state])
		p.part[p.of[state]].put(state)
	}
	for met := range p.met.all() {
		if p.part[met].size < p.sets[met].size {
			p.divide(met)
		}
		p.part[met].empty()
	}
	p.met.empty()
}

// divide makes a set of its own of the states of a part, or of the others that
// are in a set with them, whichever are fewer. If the set that it was is still to
// be done, both are; else the smaller one is enough.
func (p *partition) divide(old group) {
	fresh := group(len(p.sets))
	fewer := p.part[old].size <= p.sets[old].size/2
	var out set[int]
	for state := range p.sets[old].all() {
		if p.part[old].has(state) == fewer {
			out.put(state)
			p.of[state] = fresh
		}
	}
	for state := range out.all() {
		p.sets[old].drop(state)
	}
	p.sets = append(p.sets, out)
	p.part = append(p.part, set[int]{})
	p.todo.put(fresh)
}

// numbers tells of each state the number of its set, counted by the least state
// of each, and these least ones.
func (p *partition) numbers() (of, least []int) {
	of = make([]int, len(p.of))
	for state, in := range p.of {
		first, _ := p.sets[in].least()
		if first == state {
			of[state] = len(least)
			least = append(least, state)
		} else {
			of[state] = of[first]
		}
	}
	return of, least
}
