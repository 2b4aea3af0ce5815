package mini

import (
	"iter"

	"hornbook/subset"
)

// origins: from which states each class leads to a state: of each class and
// state the first of them, and of each of these by the class the next one. (There
// can be so many classes that a list for each of them and each state would take
// too much room.)
type origins struct {
	states      int
	first, next []int32 // by class, then state; -1: none
}

// originsOf tells from where each state of d is led to.
func originsOf(d *subset.DFA) *origins {
	moves := d.Classes() * d.Len()
	o := &origins{states: d.Len(), first: nowhere(moves), next: nowhere(moves)}
	for class := range d.Classes() {
		row := class * d.Len()
		for state := range d.Len() {
			to := d.Next(state, class)
			o.next[row+state], o.first[row+to] = o.first[row+to], int32(state)
		}
	}
	return o
}

func nowhere(moves int) []int32 {
	out := make([]int32, moves)
	for i := range out {
		out[i] = -1
	}
	return out
}

// by goes through the states from which a class leads to one of some targets.
func (o *origins) by(class int, targets []int) iter.Seq[int] {
	return func(yield func(int) bool) {
		row := class * o.states
		for _, target := range targets {
			for state := o.first[row+target]; state >= 0; state = o.next[row+int(state)] {
				if !yield(int(state)) {
					return
				}
			}
		}
	}
}
