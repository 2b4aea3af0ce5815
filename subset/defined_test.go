package subset

import (
	"math/rand"
	"slices"
	"testing"

	"hornbook/api"
	"hornbook/match"
	"hornbook/places"
	"hornbook/regex"
)

// defined: P14.1 and P14.2 word by word, without a bound of the states.
type defined struct {
	points []int32 // of each class the least code point
	class  map[int32]int
	masks  []uint64
	next   [][]int
}

// definedOf tells the states of a by Steps of places, by one code point of each
// class.
func definedOf(a *places.Auto) defined {
	out := defined{class: map[int32]int{}}
	out.cut(a)
	out.masks = []uint64{begin}
	for state := 0; state < len(out.masks); state++ {
		out.next = append(out.next, nil)
		for _, r := range out.points {
			mask := a.Step(out.masks[state], r)
			number := slices.Index(out.masks, mask)
			if number < 0 {
				number = len(out.masks)
				out.masks = append(out.masks, mask)
			}
			out.next[state] = append(out.next[state], number)
		}
		if len(out.masks) > 2000 {
			break
		}
	}
	return out
}

// cut tells the classes by the code points at the ends of sets and beside them:
// nowhere else does a class begin.
func (d *defined) cut(a *places.Auto) {
	near := []int32{0, api.MaxRune}
	for i := range a.Len() {
		for _, r := range a.Set(i) {
			near = append(near, max(r.Lo, 1)-1, r.Lo, r.Hi, min(r.Hi+1, api.MaxRune))
		}
	}
	slices.Sort(near)
	var known []uint64
	for _, r := range slices.Compact(near) {
		var in uint64
		for i := range a.Len() {
			if slices.ContainsFunc(a.Set(i), func(some api.Range) bool { return some.Lo <= r && r <= some.Hi }) {
				in |= 1 << i
			}
		}
		if !slices.Contains(known, in) {
			known = append(known, in)
			d.points = append(d.points, r)
		}
		d.class[r] = slices.Index(known, in)
	}
}

// isDefined holds all that New tells of e against the definition; false of what
// New refuses.
func isDefined(t *testing.T, e api.Node) (*DFA, bool) {
	t.Helper()
	a := placesOf(t, e)
	want := definedOf(a)
	d, err := New(a)
	if tooMany := len(want.masks) > api.MaxStates; tooMany != (err == api.ErrStates) || tooMany != (d == nil) || !tooMany && err != api.OK {
		t.Fatalf("P14.1: %s: %d states: %v", regex.Print(e), len(want.masks), err)
	}
	if d == nil {
		return nil, false
	}
	if d.Len() != len(want.masks) || d.Classes() != len(want.points) {
		t.Fatalf("P14.1: %s: %d states, %d classes, want %d, %d", regex.Print(e), d.Len(), d.Classes(), len(want.masks), len(want.points))
	}
	for r, class := range want.class {
		if d.Class(r) != class {
			t.Fatalf("P14.1: %s: Class(%d) = %d, want %d", regex.Print(e), r, d.Class(r), class)
		}
	}
	for state, mask := range want.masks {
		if d.Mask(state) != mask {
			t.Fatalf("P14.1: %s: Mask(%d) = %x, want %x", regex.Print(e), state, d.Mask(state), mask)
		}
		if d.Accept(state) != a.Accept(mask) {
			t.Fatalf("P14.2: %s: Accept(%d) = %v", regex.Print(e), state, d.Accept(state))
		}
		for class, number := range want.next[state] {
			if got := d.Next(state, class); got != number {
				t.Fatalf("P14.2: %s: Next(%d, %d) = %d, want %d", regex.Print(e), state, class, got, number)
			}
		}
		for r, class := range want.class {
			if got := d.Step(state, r); got != want.next[state][class] {
				t.Fatalf("P14.2: %s: Step(%d, %d) = %d, want %d", regex.Print(e), state, r, got, want.next[state][class])
			}
		}
	}
	return d, true
}

// trees tells all expressions of up to so many nodes.
func trees(most int) []api.Node {
	all := [][]api.Node{nil, {one('a'), set('a', 'b'), set(), set(0, 'a', 'c', api.MaxRune), none()}}
	for size := 2; size <= most; size++ {
		var out []api.Node
		for _, kid := range all[size-1] {
			for _, kind := range []int{api.NStar, api.NPlus, api.NOpt} {
				out = append(out, over(kind, kid))
			}
		}
		for left := 1; left <= size-2; left++ {
			for _, a := range all[left] {
				for _, b := range all[size-1-left] {
					out = append(out, over(api.NCat, a, b), over(api.NAlt, a, b))
				}
			}
		}
		all = append(all, out)
	}
	return slices.Concat(all...)
}

// texts tells all texts of a, b and c up to a length.
func texts(most int) [][]int32 {
	out := [][]int32{nil}
	for from, length := 0, 1; length <= most; length++ {
		to := len(out)
		for _, text := range out[from:to] {
			for _, point := range []int32{'a', 'b', 'c'} {
				out = append(out, append(slices.Clone(text), point))
			}
		}
		from = to
	}
	return out
}

// P14.1, P14.2, P14.3: all expressions of up to five nodes, all short texts.
func TestSmallExpressionsAreDefined(t *testing.T) {
	short := texts(4)
	for _, e := range trees(5) {
		d, ok := isDefined(t, e)
		if !ok {
			t.Fatalf("P14.1: %s", regex.Print(e))
		}
		a := placesOf(t, e)
		for _, text := range short {
			if got := d.All(text); got != a.All(text) {
				t.Fatalf("P14.3: %s, %q: %v", regex.Print(e), string(text), got)
			}
		}
	}
}

// randomTree tells an expression of about so many nodes.
func randomTree(source *rand.Rand, size int) api.Node {
	if size <= 1 {
		lo := int32('a' + source.Intn(3))
		leaves := []api.Node{none(), set(), set('a', 'a', 'c', 'c'), set(0, 0x10FFFF), set(0, 'a'), set('c', 0xD800, 0x10FFFF, 0x10FFFF)}
		if pick := source.Intn(18); pick < len(leaves) {
			return leaves[pick]
		}
		return set(lo, lo+int32(source.Intn(2)))
	}
	if source.Intn(5) < 2 || size == 2 {
		return over([]int{api.NStar, api.NPlus, api.NOpt}[source.Intn(3)], randomTree(source, size-1))
	}
	left := 1 + source.Intn(size-2)
	kind := []int{api.NCat, api.NCat, api.NAlt}[source.Intn(3)]
	return over(kind, randomTree(source, left), randomTree(source, size-1-left))
}

func randomText(source *rand.Rand, most int) []int32 {
	var out []int32
	for range source.Intn(most + 1) {
		out = append(out, int32('a'+source.Intn(4)))
	}
	if source.Intn(5) == 0 && len(out) > 0 {
		out[source.Intn(len(out))] = []int32{-1, 0x110000, 0, 0x10FFFF, 0xD800}[source.Intn(5)]
	}
	return out
}

// P14.1, P14.2, P14.3: greater ones, some with too many states, and longer
// texts, held against places and against what the expression matches.
func TestGreaterExpressionsAreDefined(t *testing.T) {
	source := rand.New(rand.NewSource(14))
	matched, refused := 0, 0
	for range 2500 {
		e := randomTree(source, 1+source.Intn(90))
		if regex.Places(e) > api.MaxPlaces {
			continue
		}
		d, ok := isDefined(t, e)
		if !ok {
			refused++
			continue
		}
		a := placesOf(t, e)
		for range 8 {
			text := randomText(source, 10)
			want := match.All(e, text)
			if got := d.All(text); got != want || a.All(text) != want {
				t.Fatalf("P14.3: %s, %v: %v", regex.Print(e), text, got)
			}
			state := 0
			for _, r := range text {
				state = d.Step(state, r)
			}
			if d.Accept(state) != want {
				t.Fatalf("P14.2: %s, %v: Accept(%d) = %v", regex.Print(e), text, state, !want)
			}
			if want {
				matched++
			}
		}
	}
	if matched < 1500 || refused < 3 {
		t.Errorf("%d matched, %d refused", matched, refused)
	}
}

// P14.1: near the bound of the states, at random.
func TestRefusedAsDefined(t *testing.T) {
	source := rand.New(rand.NewSource(141))
	refused := 0
	for range 60 {
		e := over(api.NCat, fromBehind('a', 'b', 4+source.Intn(4)), randomTree(source, 1+source.Intn(12)))
		if _, ok := isDefined(t, e); !ok {
			refused++
		}
	}
	if refused < 10 || refused > 50 {
		t.Errorf("%d refused", refused)
	}
}
