package utf

import (
	"bytes"
	"math"
	"math/rand"
	"slices"
	"testing"
)

// P2.2
func TestBytesOfKnownPoints(t *testing.T) {
	const none = "\xef\xbf\xbd"
	for _, c := range []struct {
		points []int32
		want   string
	}{
		{nil, ""},
		{[]int32{}, ""},
		{[]int32{0x41}, "A"},
		{[]int32{0, 0x7F}, "\x00\x7f"},
		{[]int32{0x80, 0x7FF}, "\xc2\x80\xdf\xbf"},
		{[]int32{0x800, 0xFFFF}, "\xe0\xa0\x80\xef\xbf\xbf"},
		{[]int32{0x10000, 0x10FFFF}, "\xf0\x90\x80\x80\xf4\x8f\xbf\xbf"},
		{[]int32{0xD7FF, 0xE000}, "\xed\x9f\xbf\xee\x80\x80"},
		{[]int32{0xFFFD}, none},
		{[]int32{0xD800}, none},
		{[]int32{0xDBFF}, none},
		{[]int32{0xDC00}, none},
		{[]int32{0xDFFF}, none},
		{[]int32{0xD834, 0xDD1E}, none + none}, // two surrogates are never one code point
		{[]int32{-1}, none},
		{[]int32{math.MinInt32}, none},
		{[]int32{0x110000}, none},
		{[]int32{math.MaxInt32}, none},
		{[]int32{0x61, -1, 0x20AC, 0x110000, 0x62}, "a" + none + "\xe2\x82\xac" + none + "b"},
	} {
		if got := Bytes(c.points); string(got) != c.want {
			t.Errorf("Bytes(%x) = % x, want % x", c.points, got, c.want)
		}
	}
}

// P2.2 and P2.3: every number from below the code points to above them.
func TestBytesOfEveryPoint(t *testing.T) {
	for point := int32(-0x800); point <= 0x111000; point++ {
		taken := point
		if shortest(point) == 0 {
			taken = 0xFFFD
		}
		want := formOf(uint32(taken), shortest(taken))
		got := Bytes([]int32{point})
		if !bytes.Equal(got, want) {
			t.Fatalf("Bytes(%x) = % x, want % x", point, got, want)
		}
		points, starts := Runes(got)
		if !slices.Equal(points, []int32{taken}) || !slices.Equal(starts, []int{0}) || !Good(got) {
			t.Fatalf("Runes(% x) = %x, %v; want %x", got, points, starts, taken)
		}
	}
}

// P2.3: code points that have UTF-8 are the same to and fro, at their places.
func TestPointsToAndFro(t *testing.T) {
	r := rand.New(rand.NewSource(22))
	for range 2000 {
		var points []int32
		var starts []int
		size := 0
		for range r.Intn(20) {
			point := int32(r.Intn(0x110000) >> r.Intn(15)) // the short ones as often
			if shortest(point) > 0 {
				points, starts = append(points, point), append(starts, size)
				size += shortest(point)
			}
		}
		b := Bytes(points)
		gotPoints, gotStarts := Runes(b)
		if len(b) != size || !Good(b) || !slices.Equal(gotPoints, points) || !slices.Equal(gotStarts, starts) {
			t.Fatalf("%x became % x, and %x at %v", points, b, gotPoints, gotStarts)
		}
	}
}

// P2.3: bytes are the same to and fro where they are well-formed, and there alone.
func TestBytesToAndFro(t *testing.T) {
	r := rand.New(rand.NewSource(23))
	good := 0
	for range 20000 {
		b := make([]byte, r.Intn(5))
		for i := range b {
			b[i] = edges[r.Intn(len(edges))]
		}
		points, _ := Runes(b)
		if same := bytes.Equal(Bytes(points), b); same != Good(b) {
			t.Fatalf("% x became % x, and Good is %v", b, Bytes(points), Good(b))
		}
		if Good(b) {
			good++
		}
	}
	if good < 500 {
		t.Errorf("%d were well-formed: too few to tell", good)
	}
}

// P2.2
func TestAt(t *testing.T) {
	starts := []int{0, 1, 3, 6}
	for _, c := range []struct {
		starts        []int
		size, i, want int
	}{
		{starts, 10, 0, 0},
		{starts, 10, 1, 1},
		{starts, 10, 2, 3},
		{starts, 10, 3, 6},
		{starts, 10, 4, 10},
		{starts, 10, 5, -1},
		{starts, 10, -1, -1},
		{starts, 10, math.MaxInt, -1},
		{starts, 10, math.MinInt, -1},
		{starts[:2], 10, 2, 10}, // what lies behind the list is none of it
		{starts[:2], 10, 3, -1},
		{[]int{7}, 9, 0, 7}, // the places are told as they are, and so is the size
		{[]int{-5, math.MaxInt}, math.MinInt, 0, -5},
		{[]int{-5, math.MaxInt}, math.MinInt, 1, math.MaxInt},
		{[]int{-5, math.MaxInt}, math.MinInt, 2, math.MinInt},
		{nil, 0, 0, 0},
		{nil, 5, 0, 5},
		{nil, 5, 1, -1},
		{nil, 5, -1, -1},
		{[]int{}, 5, 0, 5},
		{[]int{}, 5, 1, -1},
	} {
		if got := At(c.starts, c.size, c.i); got != c.want {
			t.Errorf("At(%v, %d, %d) = %d, want %d", c.starts, c.size, c.i, got, c.want)
		}
	}
}

// P2.1 and P2.2: At gives back the places that Runes told, and the end.
func TestAtOfRunes(t *testing.T) {
	b := []byte("a\u00e9\xff\u20ac\U0001d11e")
	points, starts := Runes(b)
	for i, start := range starts {
		if got := At(starts, len(b), i); got != start {
			t.Errorf("At %d: %d, want %d", i, got, start)
		}
	}
	if got := At(starts, len(b), len(points)); got != len(b) {
		t.Errorf("At the end: %d, want %d", got, len(b))
	}
}
