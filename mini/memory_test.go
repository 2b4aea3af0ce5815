package mini

import (
	"fmt"
	"slices"
	"strings"
	"sync"
	"testing"
	"unsafe"

	"hornbook/api"
	"hornbook/subset"
)

// samples tells expressions of each form.
func samples(t *testing.T) []api.Node {
	var out []api.Node
	for _, s := range []string{"'a", "()", "[]", "['a 'c]", "'a*", "'a 'b", "'a | 'b 'c", "('a | 'b)* 'c?", "(('a+ 'b)? | ())+", ".* ['a 'c 'e] [^'x]", "['a 'b]* 'a ['a 'b] ['a 'b]"} {
		out = append(out, read(t, s))
	}
	return out
}

var points = []int32{-1, 0, 7, 'a', 'b', 'c', 'e', 'x', 0x10FFFF, 0x110000}

// tell is all that a minimal automaton tells, of some code points and texts.
func tell(m *Min) string {
	var b strings.Builder
	fmt.Fprintln(&b, m.Len(), m.Classes(), m.Empty(), m.Moves())
	for state := -1; state <= 130; state++ {
		fmt.Fprintln(&b, m.Of(state), m.Accept(state))
	}
	for state := -1; state <= m.Len(); state++ {
		for class := -1; class <= m.Classes(); class++ {
			fmt.Fprint(&b, m.Next(state, class), " ")
		}
		for _, r := range points {
			fmt.Fprint(&b, m.Step(state, r), " ")
		}
	}
	for _, text := range textsOf([]int32{'a', 'b', 'c'}, 3) {
		fmt.Fprint(&b, m.All(text))
	}
	return b.String()
}

// told is all that subset's states tell.
func told(d *subset.DFA) string {
	var b strings.Builder
	fmt.Fprintln(&b, d.Len(), d.Classes())
	for state := range d.Len() {
		fmt.Fprintln(&b, d.Mask(state), d.Accept(state))
		for class := range d.Classes() {
			fmt.Fprint(&b, d.Next(state, class), " ")
		}
		for _, r := range points {
			fmt.Fprint(&b, d.Step(state, r), " ")
		}
	}
	return b.String()
}

// Rule 3: states and texts that are handed in stay as they were.
func TestHandedInStays(t *testing.T) {
	for _, e := range append(samples(t), mostStates(api.NStar)) {
		d, _ := statesOf(t, e)
		before := told(d)
		m := New(d)
		text := []int32("abcab")
		m.All(text[:3])
		m.Moves()
		if !slices.Equal(text, []int32("abcab")) {
			t.Error("rule 3: All changed a text")
		}
		if told(d) != before {
			t.Error("rule 3: the states were changed")
		}
	}
}

// Rule 3: what is handed in isn't kept: other states in its place change
// nothing.
func TestHandedInIsNotKept(t *testing.T) {
	other, _ := statesOf(t, read(t, "'x ('y | 'z)+ 'a"))
	for _, e := range samples(t) {
		m, d := made(t, e)
		want := tell(m)
		*d = *other
		if tell(m) != want {
			t.Error("rule 3: New kept what it was handed")
		}
	}
}

// Rule 3, P15.1: moves are new memory, their spare room too: what is done with
// them changes neither the automaton nor others.
func TestMovesAreNew(t *testing.T) {
	for _, e := range samples(t) {
		m, _ := made(t, e)
		want := tell(m)
		one, two := m.Moves(), m.Moves()
		kept := slices.Clone(two)
		one, two = one[:cap(one)], two[:cap(two)]
		if unsafe.SliceData(one) == unsafe.SliceData(two) {
			t.Error("rule 3: two answers share memory")
		}
		for i := range one {
			one[i] = api.Move{From: -7, Class: -7, To: -7}
		}
		if tell(m) != want || !slices.Equal(two[:len(kept)], kept) {
			t.Error("rule 3: moves are shared")
		}
	}
}

// Rule 6: an answer hangs on the states and what is asked alone, not on what was
// asked before or is asked at once, nor on other automata.
func TestAskedAtOnce(t *testing.T) {
	for _, e := range samples(t) {
		m, d := made(t, e)
		want := tell(m)
		answers := make([]string, 8)
		var wait sync.WaitGroup
		for i := range answers {
			wait.Go(func() {
				if i%2 == 0 {
					answers[i] = tell(m)
				} else {
					answers[i] = tell(New(d))
				}
			})
		}
		wait.Wait()
		for _, got := range append(answers, tell(m)) {
			if got != want {
				t.Error("rule 6: otherwise when asked at once")
			}
		}
	}
}
