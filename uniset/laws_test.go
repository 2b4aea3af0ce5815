package uniset

import (
	"math/rand"
	"slices"
	"testing"

	"hornbook/api"
)

// brokenLaws tells the laws of an algebra of sets that three sets break.
func brokenLaws(a, b, c []api.Range) []string {
	all := rangesOf(0, top)
	var broken []string
	law := func(name string, left, right []api.Range) {
		if !slices.Equal(left, right) {
			broken = append(broken, name)
		}
	}
	law("union is idempotent", Union(a, a), a)
	law("intersection is idempotent", Inter(a, a), a)
	law("union commutes", Union(a, b), Union(b, a))
	law("intersection commutes", Inter(a, b), Inter(b, a))
	law("union associates", Union(Union(a, b), c), Union(a, Union(b, c)))
	law("intersection associates", Inter(Inter(a, b), c), Inter(a, Inter(b, c)))
	law("union distributes", Union(a, Inter(b, c)), Inter(Union(a, b), Union(a, c)))
	law("intersection distributes", Inter(a, Union(b, c)), Union(Inter(a, b), Inter(a, c)))
	law("union absorbs", Union(a, Inter(a, b)), a)
	law("intersection absorbs", Inter(a, Union(a, b)), a)
	law("none is union's unit", Union(a, nil), a)
	law("all is intersection's unit", Inter(a, all), a)
	law("all swallows", Union(a, all), all)
	law("none swallows", Inter(a, nil), nil)
	law("a set and what it hasn't are all", Union(a, Not(a)), all)
	law("a set and what it hasn't meet nowhere", Inter(a, Not(a)), nil)
	law("twice not is nothing done", Not(Not(a)), a)
	law("not of a union", Not(Union(a, b)), Inter(Not(a), Not(b)))
	law("not of an intersection", Not(Inter(a, b)), Union(Not(a), Not(b)))
	law("minus is what the other hasn't", Minus(a, b), Inter(a, Not(b)))
	law("minus and what is common are the whole", Union(Minus(a, b), Inter(a, b)), a)
	law("minus itself is none", Minus(a, a), nil)
	law("minus one, minus another", Minus(Minus(a, b), c), Minus(a, Union(b, c)))
	if Count(Union(a, b))+Count(Inter(a, b)) != Count(a)+Count(b) || Count(a)+Count(Not(a)) != top+1 {
		broken = append(broken, "counts add up")
	}
	for _, set := range [][]api.Range{Union(a, b), Inter(a, b), Minus(a, b), Not(a)} {
		if !Is(set) {
			broken = append(broken, "an answer is a set")
		}
	}
	return broken
}

func checkLaws(t *testing.T, a, b, c []api.Range) {
	t.Helper()
	for _, name := range brokenLaws(a, b, c) {
		t.Fatalf("%s: not of %v, %v, %v", name, a, b, c)
	}
}

// P3.3: each three sets of a few code points.
func TestAlgebraOfEveryThreeSmallSets(t *testing.T) {
	few := []int32{0, 1, top - 1, top}
	for x := range 1 << len(few) {
		for y := range 1 << len(few) {
			for z := range 1 << len(few) {
				checkLaws(t, subset(few, x, true), subset(few, y, true), subset(few, z, true))
			}
		}
	}
}

// P3.3
func TestAlgebraOfAnySets(t *testing.T) {
	r := rand.New(rand.NewSource(35))
	anySet := func() []api.Range {
		set, e := Norm(fairList(r, 20))
		if e != api.OK {
			t.Fatal(e)
		}
		if r.Intn(3) == 0 {
			set = Not(set)
		}
		return set
	}
	for range 3000 {
		checkLaws(t, anySet(), anySet(), anySet())
	}
	none, all := []api.Range{}, rangesOf(0, top)
	for range 50 {
		checkLaws(t, none, anySet(), all)
		checkLaws(t, all, anySet(), none)
	}
}

// P3.3: one that holds the other is told alike by each of the calls.
func TestOrderOfSets(t *testing.T) {
	r := rand.New(rand.NewSource(36))
	held := 0
	for range 5000 {
		a, b := Union(fairList(r, 3), nil), Union(fairList(r, 6), nil)
		byMinus := len(Minus(a, b)) == 0
		if Same(Inter(a, b), a) != byMinus || Same(Union(a, b), b) != byMinus || (Count(Inter(a, b)) == Count(a)) != byMinus {
			t.Fatalf("%v in %v: %v", a, b, byMinus)
		}
		if byMinus {
			held++
		}
	}
	if held < 100 {
		t.Errorf("%d were held: too few to tell", held)
	}
}
