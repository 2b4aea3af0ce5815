package trie

import (
	"math/rand"
	"reflect"
	"slices"
	"testing"
)

// treeOf tells a tree of rows.
func treeOf(rows ...string) *tree[byte] {
	var x tree[byte]
	for _, row := range rows {
		x.add([]byte(row))
	}
	return &x
}

// count tells how many trees there are below x, and that each of them is there
// for a reason.
func count(t *testing.T, x *tree[byte]) int {
	t.Helper()
	n := 0
	if x.below != nil && len(x.below) == 0 {
		t.Error("room is kept for trees that aren't there")
	}
	for key, lower := range x.below {
		if len(lower.piece) == 0 || lower.piece[len(lower.piece)-1] != key {
			t.Errorf("%q lies below %q", lower.piece, key)
		}
		if !lower.isRow && len(lower.below) < 2 {
			t.Errorf("%q is there for no reason", lower.piece)
		}
		n += 1 + count(t, lower)
	}
	return n
}

// A tree hangs on its rows alone: in whatever order they came, and whatever else
// was there and went, it is the same, and has no more trees than it needs.
func TestOneTreeForTheSameRows(t *testing.T) {
	for round := range 200 {
		source := rand.New(rand.NewSource(int64(round)))
		letters := []int32("abcde")[:1+round%4]
		x := treeOf()
		kept := map[string]bool{}
		for range 60 {
			row := string(someOf(source, letters, 6))
			if row == "" {
				continue
			}
			if source.Intn(5) < 3 {
				if x.add([]byte(row)) == kept[row] {
					t.Fatalf("add(%q)", row)
				}
				kept[row] = true
			} else {
				if x.drop([]byte(row)) != kept[row] {
					t.Fatalf("drop(%q)", row)
				}
				delete(kept, row)
			}
			var rows []string
			for one := range kept {
				rows = append(rows, one)
			}
			if !reflect.DeepEqual(x, treeOf(rows...)) {
				t.Fatalf("round %d: another tree of %q", round, rows)
			}
			if n := count(t, x); n > 2*len(rows) {
				t.Fatalf("%d trees for %d rows", n, len(rows))
			}
		}
		for row := range kept {
			x.drop([]byte(row))
		}
		if !reflect.DeepEqual(x, treeOf()) {
			t.Fatalf("round %d: something is left", round)
		}
	}
}

// steps tells the rows of the trees along a row, and what is ahead of each.
func steps(x *tree[byte], row string) []string {
	var out []string
	for at, rest := range x.along([]byte(row)) {
		out = append(out, string(at.piece)+"<"+string(rest))
	}
	return out
}

// Rows are found by their ends, piece by piece.
func TestAlong(t *testing.T) {
	x := treeOf("Mr", "r", "Dr", "sir", "fir", "a")
	for _, c := range []struct {
		row  string
		want []string
	}{
		{"", []string{"<"}},
		{"x", []string{"<x"}},
		{"xr", []string{"<xr", "r<x"}},
		{"r", []string{"<r", "r<"}},
		{"Mr", []string{"<Mr", "r<M", "M<"}},
		{"sir", []string{"<sir", "r<si", "i<s", "s<"}},
		{"xsir", []string{"<xsir", "r<xsi", "i<xs", "s<x"}},
		{"ra", []string{"<ra", "a<r"}},
		{"Mrx", []string{"<Mrx"}},
	} {
		if got := steps(x, c.row); !slices.Equal(got, c.want) {
			t.Errorf("along %q: %q, want %q", c.row, got, c.want)
		}
	}
}

// A piece that a row has only in part isn't gone through.
func TestPieceInPart(t *testing.T) {
	x := treeOf("abcd")
	for _, row := range []string{"bcd", "d", "xbcd", "bbcd", "xd"} {
		if got := steps(x, row); !slices.Equal(got, []string{"<" + row}) {
			t.Errorf("along %q: %q", row, got)
		}
	}
	if got := steps(x, "xabcd"); !slices.Equal(got, []string{"<xabcd", "abcd<x"}) {
		t.Errorf("along xabcd: %q", got)
	}
}

// What rows have in common keeps nothing of the memory of a long row, which may
// go ahead of the others.
func TestLongRowLeavesNothing(t *testing.T) {
	var x tree[int32]
	x.add(points("a long row"))
	from, to := lies(x.below['w'].piece)
	x.add(points("now"))
	if begin, _ := lies(x.below['w'].piece); string(x.below['w'].piece) != "ow" || from <= begin && begin < to {
		t.Errorf("%q lies within the long row's memory", string(x.below['w'].piece))
	}
}

func TestAlike(t *testing.T) {
	for _, c := range []struct {
		one, other string
		want       int
	}{{"", "", 0}, {"a", "", 0}, {"a", "a", 1}, {"ab", "b", 1}, {"ab", "a", 0}, {"abc", "xbc", 2}, {"abc", "abc", 3}, {"aab", "ab", 2}, {"acb", "aab", 1}} {
		if alike([]byte(c.one), []byte(c.other)) != c.want || alike([]byte(c.other), []byte(c.one)) != c.want {
			t.Errorf("alike(%q, %q) isn't %d", c.one, c.other, c.want)
		}
	}
}

// Rule 7: what is gone through can be left at any point, and gone through again,
// also while it is gone through; it is what is there then.
func TestLeftAtAnyPoint(t *testing.T) {
	x := treeOf("c", "bc", "abc", "xbc")
	along, rows := x.along([]byte("abc")), x.rows()
	for range 2 {
		for most := range 5 {
			n := 0
			for at := range along {
				if n == most {
					break
				}
				n++
				inner := 0
				for range along {
					inner++
				}
				if inner != 4 || at == nil {
					t.Errorf("%d within", inner)
				}
			}
			if n != min(most, 4) {
				t.Errorf("%d, left behind %d", n, most)
			}
			var got []string
			for row := range rows {
				if len(got) == most {
					break
				}
				got = append(got, string(row))
				var inner []string
				for one := range rows {
					inner = append(inner, string(one))
				}
				if slices.Sort(inner); !slices.Equal(inner, []string{"abc", "bc", "c", "xbc"}) {
					t.Errorf("%q within", inner)
				}
			}
			if len(got) != min(most, 4) {
				t.Errorf("%q, left behind %d", got, most)
			}
		}
	}
	x.drop([]byte("bc"))
	x.add([]byte("ybc"))
	var got []string
	for row := range rows {
		got = append(got, string(row))
	}
	if slices.Sort(got); !slices.Equal(got, []string{"abc", "c", "xbc", "ybc"}) {
		t.Errorf("%q, behind a change", got)
	}
}
