package subset

import (
	"math/bits"

	"hornbook/api"
	"hornbook/classes"
	"hornbook/places"
)

// beginning: the mask of the state in which nothing has been read.
const beginning uint64 = 1 << 63

// making: states that are being made: the number of each mask that has been
// met, and the masks from which none has been gone on.
type making struct {
	auto    *places.Auto
	members []uint64
	numbers map[uint64]int
	todo    queue[uint64]
}

// sets tells the set of each place.
func sets(a *places.Auto) [][]api.Range {
	var out [][]api.Range
	for i := range a.Len() {
		out = append(out, a.Set(i))
	}
	return out
}

// members tells of each class the places that have it. (There can be so many
// classes that to take a Step by each of them from each state would take long.)
func members(c *classes.Classes) []uint64 {
	out := make([]uint64, c.Len())
	for class := range out {
		for place := range c.Sets() {
			if c.In(class, place) {
				out[class] |= 1 << place
			}
		}
	}
	return out
}

// statesOf tells all states to which steps lead, as they are met; ErrStates, if
// there are too many.
func statesOf(a *places.Auto, members []uint64) ([]state, api.Errno) {
	m := &making{auto: a, members: members, numbers: map[uint64]int{}}
	m.number(beginning)
	var out []state
	for mask, ok := m.todo.take(); ok; mask, ok = m.todo.take() {
		out = append(out, state{mask, a.Accept(mask), m.next(mask)})
		if len(m.numbers) > api.MaxStates {
			return nil, api.ErrStates
		}
	}
	return out, api.OK
}

// number tells the number of a mask, which it gets when it is met first.
func (m *making) number(mask uint64) int {
	number, met := m.numbers[mask]
	if !met {
		number = len(m.numbers)
		m.numbers[mask] = number
		m.todo.put(mask)
	}
	return number
}

// next tells the number of the state to which each class leads from a mask.
func (m *making) next(mask uint64) []int {
	behind := m.behind(mask)
	out := make([]int, len(m.members))
	for class, has := range m.members {
		out[class] = m.number(behind & has)
	}
	return out
}

// behind tells the places that can come right behind a mask.
func (m *making) behind(mask uint64) uint64 {
	if mask == beginning {
		return m.auto.First()
	}
	var out uint64
	for rest := mask; rest != 0; rest &= rest - 1 {
		out |= m.auto.Follow(bits.TrailingZeros64(rest))
	}
	return out
}
