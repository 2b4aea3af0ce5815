package utf

import (
	"bytes"
	"slices"
	"testing"
)

// fill writes over all of a list's memory, its spare room too.
func fill[T any](list []T, with T) {
	list = list[:cap(list)]
	for i := range list {
		list[i] = with
	}
}

// Rule 3: what is handed in is not changed, spare room included, neither by
// the call nor by what is done with its answer.
func TestArgumentsAreNotChanged(t *testing.T) {
	b := []byte("a\u00e9\xff\u20acbehind it")
	points := []int32{0x61, 0xD800, 0x20AC, -1, 77, 78, 79, 80}
	places := []int{0, 1, 3, 55, 56}
	bBefore, pointsBefore, placesBefore := bytes.Clone(b), slices.Clone(points), slices.Clone(places)
	r, starts := Runes(b[:7])
	Good(b[:7])
	out := Bytes(points[:4])
	At(places[:3], 6, 3)
	fill(r, -9)
	fill(starts, -9)
	fill(out, 0xEE)
	if !bytes.Equal(b, bBefore) {
		t.Errorf("the bytes became % x", b)
	}
	if !slices.Equal(points, pointsBefore) {
		t.Errorf("the code points became %x", points)
	}
	if !slices.Equal(places, placesBefore) {
		t.Errorf("the places became %v", places)
	}
}

// Rule 3: what lies behind a list is none of it.
func TestSpareRoomIsNotRead(t *testing.T) {
	b := []byte("\xe2\x82\xac")
	if points, _ := Runes(b[:2]); !slices.Equal(points, []int32{0xFFFD, 0xFFFD}) || Good(b[:2]) {
		t.Errorf("Runes read on behind the end: %x", points)
	}
}

// Rule 3: what is handed in is not kept, and no answer is touched by what is
// done with another.
func TestAnswersAreNewMemory(t *testing.T) {
	b := []byte("a\u00e9\xff\u20ac")
	points, starts := Runes(b)
	morePoints, moreStarts := Runes(b)
	given := slices.Clone(points)
	one, two := Bytes(given), Bytes(given)
	wantPoints, wantStarts, want := slices.Clone(points), slices.Clone(starts), bytes.Clone(one)
	fill(b, 'z')
	fill(given, 'z')
	fill(morePoints, -9)
	fill(moreStarts, -9)
	fill(two, 0xEE)
	if !slices.Equal(points, wantPoints) || !slices.Equal(starts, wantStarts) {
		t.Errorf("Runes: the answer became %x, %v", points, starts)
	}
	if !bytes.Equal(one, want) {
		t.Errorf("Bytes: the answer became % x", one)
	}
}

// Rule 2: a nil list and an empty one are the same.
func TestNilIsEmpty(t *testing.T) {
	for _, none := range [][]byte{nil, {}, []byte("\xff\xff")[:0]} {
		points, starts := Runes(none)
		if len(points) != 0 || len(starts) != 0 || !Good(none) {
			t.Errorf("Runes: %x, %v; Good: %v", points, starts, Good(none))
		}
	}
	for _, none := range [][]int32{nil, {}, {5, 6}} {
		if got := Bytes(none[:0]); len(got) != 0 {
			t.Errorf("Bytes: % x", got)
		}
	}
	for _, none := range [][]int{nil, {}, {5, 6}} {
		if At(none[:0], 8, 0) != 8 || At(none[:0], 8, 1) != -1 || At(none[:0], 8, -1) != -1 {
			t.Error("At of nothing")
		}
	}
}

// Rule 7: the iterator may be left anywhere, and gone through again, also
// while it is being gone through.
func TestSequencesAnewAndWithin(t *testing.T) {
	b := []byte("a\u00e9\xff\u20ac")
	all := sequences(b)
	whole := slices.Collect(all)
	if len(whole) != 4 {
		t.Fatalf("all of them: %v", whole)
	}
	for left := range whole {
		seen := 0
		for s := range all {
			if s != whole[seen] || !slices.Equal(slices.Collect(all), whole) {
				t.Errorf("at %d: %v", seen, s)
			}
			if seen++; seen > left {
				break
			}
		}
	}
	for s := range sequences(nil) {
		t.Errorf("of nothing: %v", s)
	}
}
