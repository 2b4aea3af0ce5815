package lex

import (
	"fmt"
	"slices"
	"strings"
	"sync"
	"testing"
	"unsafe"

	"hornbook/api"
)

// fill writes over all of a list's memory, its spare room too.
func fill(l []api.Token, with api.Token) {
	l = l[:cap(l)]
	for i := range l {
		l[i] = with
	}
}

// Rule 3: an answer is the caller's, its spare room too.
func TestAnswersAreNewMemory(t *testing.T) {
	for _, s := range []string{"", "a", "$a 'b \"c\"", "1\n2\n3\n4\n5", strings.Repeat("[ ", 99)} {
		one, _, _ := Scan(s)
		two, _, _ := Scan(s)
		before := slices.Clone(two)
		_ = append(one, api.Token{Kind: 5})
		fill(one, api.Token{Kind: 7, At: 7, Text: "7"})
		three, _, _ := Scan(s)
		if !slices.Equal(two, before) || !slices.Equal(three, before) {
			t.Errorf("Scan(%q) shares memory", s)
		}
	}
}

// Rule 3: what is told shares nothing with the text that was handed in.
func TestTextsAreNewMemory(t *testing.T) {
	s := strings.Clone("$name ident 1234 \"word\" {Prop} >< [")
	from := uintptr(unsafe.Pointer(unsafe.StringData(s)))
	l, _, err := Scan(s)
	if err != api.OK {
		t.Fatal(err)
	}
	for _, sign := range l[:len(l)-1] {
		p := uintptr(unsafe.Pointer(unsafe.StringData(sign.Text)))
		if from <= p && p < from+uintptr(len(s)) {
			t.Errorf("%v lies in the text", sign)
		}
	}
}

// Rule 3: what is handed in is neither changed nor kept, nor its spare room.
func TestPrintKeepsNothing(t *testing.T) {
	for _, row := range [][]api.Token{nil, everySign(), {{Kind: 99, Text: "x"}, {Kind: api.TWord, Text: `"`}}} {
		spare := append(slices.Clone(row), api.Token{Kind: api.TIdent, Text: "spare"}, api.Token{Kind: -1})
		before := slices.Clone(spare)
		first := Print(spare[:len(row)])
		if !slices.Equal(spare, before) {
			t.Errorf("Print changed %v", row)
		}
		kept := strings.Clone(first)
		fill(spare, api.Token{Kind: api.TIdent, Text: "other"})
		if first != kept || Print(before[:len(row)]) != kept {
			t.Errorf("Print keeps %v", row)
		}
	}
}

// Rule 2: a nil list and an empty one are the same.
func TestNilIsEmpty(t *testing.T) {
	if Print(nil) != "" || Print([]api.Token{}) != "" {
		t.Errorf("%q, %q", Print(nil), Print([]api.Token{}))
	}
}

// Rule 4: beside an error there is no list; a text that is refused changes
// nothing. Beside OK the place is 0.
func TestRefusedTexts(t *testing.T) {
	want := tell()
	for _, s := range texts() {
		l, at, err := Scan(s)
		if err != api.OK && (len(l) != 0 || cap(l) != 0) || err == api.OK && at != 0 {
			t.Errorf("Scan(%q) = %v, %d, %v", s, l, at, err)
		}
	}
	if tell() != want {
		t.Error("the calls tell otherwise behind refused texts")
	}
}

// tell is what the calls tell of some texts and lists.
func tell() string {
	var b strings.Builder
	for _, s := range pieces() {
		l, at, err := Scan(s)
		fmt.Fprintln(&b, l, at, err, Print(l))
	}
	fmt.Fprintln(&b, Print(everySign()))
	return b.String()
}

// Rule 6: an answer does not hang on where a text lies, or on who asks.
func TestAskedAtOnce(t *testing.T) {
	want := tell()
	answers := make([]string, 8)
	var wait sync.WaitGroup
	for i := range answers {
		wait.Go(func() { answers[i] = tell() })
	}
	wait.Wait()
	for _, got := range answers {
		if got != want {
			t.Error("otherwise when asked at once")
		}
	}
	whole := `@"a"'\u{61}$n12`
	for from := range whole {
		for to := from; to <= len(whole); to++ {
			l, at, err := Scan(whole[from:to])
			again, atAgain, errAgain := Scan(strings.Clone(whole[from:to]))
			if !slices.Equal(l, again) || at != atAgain || err != errAgain {
				t.Errorf("Scan(%q) = %v, %d, %v", whole[from:to], l, at, err)
			}
		}
	}
}
