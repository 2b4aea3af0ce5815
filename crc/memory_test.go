package crc

import (
	"bytes"
	"testing"

	"hornbook/api"
)

// answers: a call of each kind that takes b and answers a list, and errors too.
func answers() map[string]func(b []byte) []byte {
	return map[string]func(b []byte) []byte{
		"Put":                 func(b []byte) []byte { return Put(b, sample, 8) },
		"Put of no byte":      func(b []byte) []byte { return Put(b, sample, 0) },
		"Put below 0":         func(b []byte) []byte { return Put(b, sample, -3) },
		"Text":                func(b []byte) []byte { return Text(b, "abc") },
		"Text of nothing":     func(b []byte) []byte { return Text(b, "") },
		"Get":                 func(b []byte) []byte { _, rest, _ := Get(b, 2); return rest },
		"Get of no byte":      func(b []byte) []byte { _, rest, _ := Get(b, 0); return rest },
		"Get, to the end":     func(b []byte) []byte { _, rest, _ := Get(b, 5); return rest },
		"Get, ErrShort":       func(b []byte) []byte { _, rest, _ := Get(b, 8); return rest },
		"GetText":             func(b []byte) []byte { _, rest, _ := GetText(b, 9); return rest },
		"GetText, ErrLong":    func(b []byte) []byte { _, rest, _ := GetText(b, 1); return rest },
		"GetText, ErrShort":   func(b []byte) []byte { _, rest, _ := GetText(b[:3], 9); return rest },
		"GetText, no length":  func(b []byte) []byte { _, rest, _ := GetText(b[:1], 9); return rest },
		"Sum and More, alone": func(b []byte) []byte { Sum(b); More(5, b); return nil },
	}
}

// roomy: the five bytes of a text of two and one behind it, with spare room.
func roomy() (list, whole []byte) {
	whole = []byte{2, 0, 'a', 'b', 77, 101, 102, 103, 104, 105, 106, 107, 108, 109, 110, 111}
	return whole[:5], whole
}

func fill(b []byte, c byte) {
	b = b[:cap(b)]
	for i := range b {
		b[i] = c
	}
}

// Rule 3: what is handed in is not changed, spare room included, neither by
// the call nor by what is done with its answer.
func TestArgumentsAreNotChanged(t *testing.T) {
	for name, call := range answers() {
		b, whole := roomy()
		before := bytes.Clone(whole)
		answer := call(b)
		if !bytes.Equal(whole, before) {
			t.Errorf("%s changed what it was given: %v", name, whole)
		}
		fill(answer, 0xEE)
		if !bytes.Equal(whole, before) {
			t.Errorf("%s: its answer shares memory with what it was given: %v", name, whole)
		}
	}
}

// Rule 3: what is handed in is not kept, and no answer is touched by what is
// done with another.
func TestAnswersAreNewMemory(t *testing.T) {
	for name, call := range answers() {
		b, whole := roomy()
		first, second := call(b), call(b)
		want := bytes.Clone(first)
		fill(second, 0xEE)
		fill(whole, 0xDD)
		if !bytes.Equal(first, want) {
			t.Errorf("%s: %v became %v", name, want, first)
		}
	}
}

// Rule 3: an answer's spare room is its own when it is handed in again.
func TestAnswersGrowApart(t *testing.T) {
	base := Put(make([]byte, 0, 64), 1, 1)
	one, two := Put(base, 2, 1), Put(base, 3, 1)
	three, four := Text(base, "x"), Text(base, "y")
	if !bytes.Equal(one, []byte{1, 2}) || !bytes.Equal(two, []byte{1, 3}) {
		t.Errorf("Put: %v, %v", one, two)
	}
	if !bytes.Equal(three, []byte{1, 1, 0, 'x'}) || !bytes.Equal(four, []byte{1, 1, 0, 'y'}) {
		t.Errorf("Text: %v, %v", three, four)
	}
}

// Rule 3: the text that was read stays when the bytes are changed.
func TestTextsAreNewMemory(t *testing.T) {
	b, whole := roomy()
	s, _, _ := GetText(b, 2)
	fill(whole, 'z')
	if s != "ab" {
		t.Errorf("the text became %q", s)
	}
}

// Rule 2: a nil list and an empty one are the same.
func TestNilIsEmpty(t *testing.T) {
	for _, none := range [][]byte{nil, {}, make([]byte, 0, 9)} {
		if Sum(none) != 0 || More(6, none) != 6 {
			t.Error("the sum of nothing")
		}
		if got := Put(none, 513, 2); !bytes.Equal(got, []byte{1, 2}) {
			t.Errorf("Put: %v", got)
		}
		if got := Text(none, "q"); !bytes.Equal(got, []byte{1, 0, 'q'}) {
			t.Errorf("Text: %v", got)
		}
		if n, rest, e := Get(none, 0); n != 0 || len(rest) != 0 || e != api.OK {
			t.Errorf("Get: %v, %v, %v", n, rest, e)
		}
		if s, rest, e := GetText(none, 0); s != "" || len(rest) != 0 || e != api.ErrShort {
			t.Errorf("GetText: %q, %v, %v", s, rest, e)
		}
	}
}

// Rule 4: beside an error stands what the chapter says: 0 or "", and all of b;
// and what follows is as if the call had not been made.
func TestErrorsChangeNothing(t *testing.T) {
	b := []byte{2, 0, 'a'}
	for range 2 {
		if n, rest, e := Get(b, 4); n != 0 || !bytes.Equal(rest, b) || e != api.ErrShort {
			t.Errorf("Get: %v, %v, %v", n, rest, e)
		}
		if s, rest, e := GetText(b, 2); s != "" || !bytes.Equal(rest, b) || e != api.ErrShort {
			t.Errorf("GetText: %q, %v, %v", s, rest, e)
		}
		if s, rest, e := GetText(b, 1); s != "" || !bytes.Equal(rest, b) || e != api.ErrLong {
			t.Errorf("GetText: %q, %v, %v", s, rest, e)
		}
	}
}
