package props

import (
	"fmt"
	"slices"
	"strings"
	"sync"
	"testing"

	"hornbook/api"
)

// tell is all that the calls tell, as a text.
func tell(points []int32) string {
	var b strings.Builder
	fmt.Fprintln(&b, Names())
	for _, name := range append(Names(), "", "any", "Dig") {
		set, err := Set(name)
		fmt.Fprintln(&b, name, set, err)
	}
	for _, p := range points {
		fmt.Fprintln(&b, p, Of(p))
	}
	return b.String()
}

// fill writes over all of a list's memory, its spare room too.
func fill[T any](l []T, with T) {
	l = l[:cap(l)]
	for i := range l {
		l[i] = with
	}
}

// Rule 3: an answer is the caller's, its spare room too: the next call tells
// the same, and so does an answer that was given before.
func TestAnswersAreNewMemory(t *testing.T) {
	points := edges(t)
	want := tell(points)
	for _, name := range Names() {
		one, two := setNamed(t, name), setNamed(t, name)
		before := slices.Clone(two)
		_ = append(one, api.Range{Lo: 1, Hi: 2})
		fill(one, api.Range{Lo: 7, Hi: 7})
		if !slices.Equal(two, before) || !slices.Equal(setNamed(t, name), before) {
			t.Errorf("Set(%s) shares memory", name)
		}
		fill(two, api.Range{Lo: 0, Hi: top})
	}
	one, two := Names(), Names()
	_ = append(one, "More")
	fill(one, "Other")
	if slices.Contains(two, "Other") || slices.Contains(Names(), "Other") {
		t.Error("Names() shares memory")
	}
	for _, p := range points {
		one, two := Of(p), Of(p)
		_ = append(one, "More")
		fill(one, "Other")
		if slices.Contains(two, "Other") || slices.Contains(Of(p), "Other") {
			t.Errorf("Of(%X) shares memory", p)
		}
	}
	if got := tell(points); got != want {
		t.Errorf("the calls tell otherwise now: %s", got)
	}
}

// Rules 2 and 4: beside an error there is no list, and a list without names is
// as good as none.
func TestNothingIsEmpty(t *testing.T) {
	for _, name := range otherNames() {
		if set, err := Set(name); err != api.ErrProp || len(set) != 0 || cap(set) != 0 {
			t.Errorf("Set(%q) = %v, %v", name, set, err)
		}
	}
	for _, p := range []int32{-1, top + 1} {
		if len(Of(p)) != 0 {
			t.Errorf("Of(%X) = %q", p, Of(p))
		}
	}
}

// Rule 4: a name that is refused changes nothing.
func TestRefusedNamesChangeNothing(t *testing.T) {
	points := edges(t)
	want := tell(points)
	for _, name := range otherNames() {
		Set(name)
	}
	if tell(points) != want {
		t.Error("the calls tell otherwise behind refused names")
	}
}

// Rule 6: an answer does not hang on where a name lies, or on who asks.
func TestAskedAtOnce(t *testing.T) {
	points := edges(t)
	want := tell(points)
	answers := make([]string, 8)
	var wait sync.WaitGroup
	for i := range answers {
		wait.Go(func() { answers[i] = tell(points) })
	}
	wait.Wait()
	for _, got := range answers {
		if got != want {
			t.Error("otherwise when asked at once")
		}
	}
	whole := "AnyDigitUpperAny"
	for _, part := range []string{whole[:3], whole[3:8], whole[8:13], whole[13:]} {
		if set, err := Set(part); err != api.OK || !slices.Equal(set, setNamed(t, strings.Clone(part))) {
			t.Errorf("Set(%s) = %v, %v", part, set, err)
		}
	}
}
