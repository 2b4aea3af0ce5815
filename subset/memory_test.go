package subset

import (
	"fmt"
	"slices"
	"strings"
	"sync"
	"testing"

	"hornbook/api"
	"hornbook/places"
)

// samples tells expressions of each form.
func samples(t *testing.T) []api.Node {
	var out []api.Node
	for _, s := range []string{"'a", "()", "[]", "['a 'c]", "'a*", "'a 'b", "'a | 'b 'c", "('a | 'b)* 'c?", "(('a+ 'b)? | ())+", ".* ['a 'c 'e] [^'x]", "['a 'b]* 'a ['a 'b] ['a 'b]"} {
		out = append(out, read(t, s))
	}
	return out
}

// tell is all that states tell, of some code points and texts.
func tell(d *DFA) string {
	var b strings.Builder
	fmt.Fprintln(&b, d.Len(), d.Classes())
	points := []int32{-1, 0, 7, 'a', 'b', 'c', 'e', 'x', 0x10FFFF, 0x110000}
	for _, r := range points {
		fmt.Fprint(&b, d.Class(r), " ")
	}
	for state := -1; state <= d.Len(); state++ {
		fmt.Fprintln(&b, d.Mask(state), d.Accept(state))
		for class := -1; class <= d.Classes(); class++ {
			fmt.Fprint(&b, d.Next(state, class), " ")
		}
		for _, r := range points {
			fmt.Fprint(&b, d.Step(state, r), " ")
		}
	}
	for _, text := range texts(3) {
		fmt.Fprint(&b, d.All(text))
	}
	return b.String()
}

// told is all that places tell.
func told(a *places.Auto) string {
	var b strings.Builder
	fmt.Fprintln(&b, a.Len(), a.First(), a.Last(), a.Null())
	for i := range a.Len() {
		fmt.Fprintln(&b, a.Set(i), a.Follow(i))
	}
	return b.String()
}

// Rule 3: places and texts that are handed in stay as they were.
func TestHandedInStays(t *testing.T) {
	for _, e := range append(samples(t), fromBehind('a', 'b', 9)) {
		a := placesOf(t, e)
		before := told(a)
		d, err := New(a)
		if told(a) != before {
			t.Error("rule 3: New changed the places")
		}
		if err != api.OK {
			continue
		}
		text := []int32("abcab")
		d.All(text[:3])
		if !slices.Equal(text, []int32("abcab")) || told(a) != before {
			t.Error("rule 3: All changed a text")
		}
	}
}

// Rule 6: an answer hangs on the places and what is asked alone, not on what
// was asked before or is asked at once, nor on other states.
func TestAskedAtOnce(t *testing.T) {
	for _, e := range samples(t) {
		a := placesOf(t, e)
		d, err := New(a)
		if err != api.OK {
			t.Fatal(err)
		}
		want := tell(d)
		answers := make([]string, 8)
		var wait sync.WaitGroup
		for i := range answers {
			wait.Go(func() {
				if i%2 == 0 {
					answers[i] = tell(d)
				} else if other, err := New(a); err == api.OK {
					answers[i] = tell(other)
				}
			})
		}
		wait.Wait()
		for _, got := range append(answers, tell(d)) {
			if got != want {
				t.Error("rule 6: otherwise when asked at once")
			}
		}
	}
}

// Things come out of a queue as they went in, also where some are put between.
func TestQueue(t *testing.T) {
	var q queue[int]
	put, taken := 0, 0
	for round := range 20 {
		for range round % 5 {
			q.put(put)
			put++
		}
		for range round % 4 {
			got, ok := q.take()
			if ok != (taken < put) || ok && got != taken || !ok && got != 0 {
				t.Fatalf("%d, %v, want %d of %d", got, ok, taken, put)
			}
			if ok {
				taken++
			}
		}
	}
}
