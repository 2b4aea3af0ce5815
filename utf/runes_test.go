package utf

import (
	"bytes"
	"math/rand"
	"slices"
	"testing"
	"unicode/utf8"
)

// edges: the bytes at which what may begin, follow or be the shortest changes.
var edges = []byte{
	0x00, 0x41, 0x7F, 0x80, 0x8F, 0x90, 0x9F, 0xA0, 0xBF, 0xC0, 0xC1, 0xC2, 0xDF,
	0xE0, 0xE1, 0xEC, 0xED, 0xEE, 0xEF, 0xF0, 0xF1, 0xF3, 0xF4, 0xF5, 0xF7, 0xF8, 0xFF,
}

// formOf is the form of UTF-8 of that many bytes, whether it is the shortest or not.
func formOf(point uint32, size int) []byte {
	if size == 1 {
		return []byte{byte(point)}
	}
	marks := []byte{2: 0xC0, 3: 0xE0, 4: 0xF0}
	form := make([]byte, size)
	for i := size - 1; i > 0; i-- {
		form[i] = 0x80 | byte(point&0x3F)
		point >>= 6
	}
	form[0] = marks[size] | byte(point)
	return form
}

// shortest is how many bytes a code point needs; 0 if it has no UTF-8.
func shortest(point int32) int {
	switch {
	case point < 0, point > 0x10FFFF, point >= 0xD800 && point <= 0xDFFF:
		return 0
	case point < 0x80:
		return 1
	case point < 0x800:
		return 2
	case point < 0x10000:
		return 3
	}
	return 4
}

// defined is P2.1's definition, word by word.
func defined(b []byte) (points []int32, starts []int, good bool) {
	good = true
	for i := 0; i < len(b); {
		point, size := int32(0xFFFD), 0
		for n := 1; n <= 4 && i+n <= len(b); n++ {
			if p, ok := wellFormed(b[i : i+n]); ok {
				point, size = p, n
			}
		}
		points, starts = append(points, point), append(starts, i)
		good = good && size > 0
		i += max(size, 1)
	}
	return points, starts, good
}

// wellFormed: all of b is one well-formed sequence.
func wellFormed(b []byte) (int32, bool) {
	lead := []byte{1: 0x7F, 2: 0x1F, 3: 0x0F, 4: 0x07}
	point := uint32(b[0] & lead[len(b)])
	for _, c := range b[1:] {
		point = point<<6 | uint32(c&0x3F)
	}
	ok := shortest(int32(point)) == len(b) && bytes.Equal(b, formOf(point, len(b)))
	return int32(point), ok
}

func checkRead(t *testing.T, b []byte) {
	t.Helper()
	points, starts, good := defined(b)
	gotPoints, gotStarts := Runes(b)
	if !slices.Equal(gotPoints, points) || !slices.Equal(gotStarts, starts) {
		t.Fatalf("Runes(% x) = %x, %v; want %x, %v", b, gotPoints, gotStarts, points, starts)
	}
	if Good(b) != good {
		t.Fatalf("Good(% x) = %v", b, !good)
	}
}

// P2.1
func TestRunesOfKnownBytes(t *testing.T) {
	for _, c := range []struct {
		b      string
		points []int32
		starts []int
		good   bool
	}{
		{"", nil, nil, true},
		{"\xff\x41", []int32{0xFFFD, 0x41}, []int{0, 1}, false},
		{"A", []int32{0x41}, []int{0}, true},
		{"\x00", []int32{0}, []int{0}, true},
		{"\x7f", []int32{0x7F}, []int{0}, true},
		{"\xc2\x80", []int32{0x80}, []int{0}, true},
		{"\xdf\xbf", []int32{0x7FF}, []int{0}, true},
		{"\xe0\xa0\x80", []int32{0x800}, []int{0}, true},
		{"\xef\xbf\xbf", []int32{0xFFFF}, []int{0}, true},
		{"\xf0\x90\x80\x80", []int32{0x10000}, []int{0}, true},
		{"\xf4\x8f\xbf\xbf", []int32{0x10FFFF}, []int{0}, true},
		{"\xed\x9f\xbf\xee\x80\x80", []int32{0xD7FF, 0xE000}, []int{0, 3}, true},
		{"\xef\xbf\xbd", []int32{0xFFFD}, []int{0}, true},
		{"a\u00e9\u20ac\U0001d11ez", []int32{0x61, 0xE9, 0x20AC, 0x1D11E, 0x7A}, []int{0, 1, 3, 6, 10}, true},

		// not the shortest form
		{"\xc0\x80", []int32{0xFFFD, 0xFFFD}, []int{0, 1}, false},
		{"\xc1\xbf", []int32{0xFFFD, 0xFFFD}, []int{0, 1}, false},
		{"\xe0\x9f\xbf", []int32{0xFFFD, 0xFFFD, 0xFFFD}, []int{0, 1, 2}, false},
		{"\xf0\x8f\xbf\xbf", []int32{0xFFFD, 0xFFFD, 0xFFFD, 0xFFFD}, []int{0, 1, 2, 3}, false},

		// surrogates, and what is above U+10FFFF
		{"\xed\xa0\x80", []int32{0xFFFD, 0xFFFD, 0xFFFD}, []int{0, 1, 2}, false},
		{"\xed\xbf\xbf", []int32{0xFFFD, 0xFFFD, 0xFFFD}, []int{0, 1, 2}, false},
		{"\xf4\x90\x80\x80", []int32{0xFFFD, 0xFFFD, 0xFFFD, 0xFFFD}, []int{0, 1, 2, 3}, false},
		{"\xf5\x80\x80\x80", []int32{0xFFFD, 0xFFFD, 0xFFFD, 0xFFFD}, []int{0, 1, 2, 3}, false},

		// cut short: each of its bytes alone, and what follows is read as ever
		{"\xc3", []int32{0xFFFD}, []int{0}, false},
		{"\xe2\x82", []int32{0xFFFD, 0xFFFD}, []int{0, 1}, false},
		{"\xf0\x9f\x92", []int32{0xFFFD, 0xFFFD, 0xFFFD}, []int{0, 1, 2}, false},
		{"\xe2\x82A", []int32{0xFFFD, 0xFFFD, 0x41}, []int{0, 1, 2}, false},
		{"\xf0\x9f\xc3\xa9", []int32{0xFFFD, 0xFFFD, 0xE9}, []int{0, 1, 2}, false},
		{"\xe2\xe2\x82\xac", []int32{0xFFFD, 0x20AC}, []int{0, 1}, false},

		// what begins none
		{"\x80", []int32{0xFFFD}, []int{0}, false},
		{"A\xbfB", []int32{0x41, 0xFFFD, 0x42}, []int{0, 1, 2}, false},
		{"\xf8\x88\x80\x80\x80", []int32{0xFFFD, 0xFFFD, 0xFFFD, 0xFFFD, 0xFFFD}, []int{0, 1, 2, 3, 4}, false},
		{"\xef\xbf\xbd\xfe", []int32{0xFFFD, 0xFFFD}, []int{0, 3}, false},
	} {
		points, starts := Runes([]byte(c.b))
		if !slices.Equal(points, c.points) || !slices.Equal(starts, c.starts) {
			t.Errorf("Runes(% x) = %x, %v; want %x, %v", c.b, points, starts, c.points, c.starts)
		}
		if Good([]byte(c.b)) != c.good {
			t.Errorf("Good(% x) = %v", c.b, !c.good)
		}
	}
}

// P2.1: all lists of up to two bytes, and those of up to four that edges make.
func TestRunesAreAsDefined(t *testing.T) {
	for c := range 256 {
		checkRead(t, []byte{byte(c)})
		for d := range 256 {
			checkRead(t, []byte{byte(c), byte(d)})
		}
	}
	for _, c := range edges {
		for _, d := range edges {
			for _, e := range edges {
				checkRead(t, []byte{c, d, e})
				for _, f := range edges {
					checkRead(t, []byte{c, d, e, f})
				}
			}
		}
	}
}

// P2.1: longer lists, of whole sequences, pieces of them, and any bytes.
func TestRunesOfLongBytes(t *testing.T) {
	r := rand.New(rand.NewSource(21))
	for range 3000 {
		var b []byte
		for range r.Intn(12) {
			form := utf8.AppendRune(nil, int32(r.Intn(0x110000)))
			switch r.Intn(4) {
			case 0:
				form = form[:r.Intn(len(form))]
			case 1:
				form[r.Intn(len(form))] = edges[r.Intn(len(edges))]
			case 2:
				form = append(form, byte(r.Intn(256)))
			}
			b = append(b, form...)
		}
		checkRead(t, b)
	}
}

// P2.1: Good is told of the whole, wherever the one bad byte is.
func TestGoodLooksEverywhere(t *testing.T) {
	b := []byte("a\u00e9\u20ac\U0001d11e\ufffdz")
	if !Good(b) {
		t.Error("all of it is well-formed")
	}
	for i := range b {
		bad := bytes.Clone(b)
		bad[i] = 0xFF
		if Good(bad) {
			t.Errorf("Good(% x)", bad)
		}
	}
}
