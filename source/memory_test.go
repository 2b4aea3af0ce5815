package source

import (
	"fmt"
	"iter"
	"reflect"
	"slices"
	"strings"
	"sync"
	"testing"
	"unsafe"

	"hornbook/api"
	"hornbook/lex"
)

// samples tells texts of sources, some of which fill one variable in often.
func samples() []string {
	return []string{
		"", "parent en", "parent EN_us\ndrop 1\ndrop 2\nskip \"a\"\nskip \"b\"\nkeep \"a\"\n",
		"$a = 'x\n$b = $a\n$c = $a $b\n9: $a >< $a\n1: $c <> $b\n5: <> ['a 'c]",
		"$long = ['a 'c 'e] | {Digit}\n3: $long $long >< $long\n2: $long <>\n1: 'a* 'b ><\n0: ><",
	}
}

// room tells where the memory of a list begins and ends, its spare room too.
func room[T any](l []T) [2]uintptr {
	var item T
	from := uintptr(unsafe.Pointer(unsafe.SliceData(l)))
	return [2]uintptr{from, from + uintptr(cap(l))*unsafe.Sizeof(item)}
}

// lies tells where a text begins and ends in memory.
func lies(s string) [2]uintptr {
	from := uintptr(unsafe.Pointer(unsafe.StringData(s)))
	return [2]uintptr{from, from + uintptr(len(s))}
}

// nodeRooms tells where the lists and names of expressions lie.
func nodeRooms(list ...api.Node) [][2]uintptr {
	var out [][2]uintptr
	for _, e := range list {
		out = append(append(out, room(e.Set), room(e.Kids), lies(e.Name)), nodeRooms(e.Kids...)...)
	}
	return out
}

// ruleRooms tells likewise where a list of rules lies.
func ruleRooms(rules []api.Rule) [][2]uintptr {
	out := [][2]uintptr{room(rules)}
	for _, r := range rules {
		out = append(out, nodeRooms(r.Left, r.Right)...)
	}
	return out
}

// rooms tells likewise where all of a source lies.
func rooms(x api.Source) [][2]uintptr {
	out := append(ruleRooms(x.Rules), lies(x.Parent), room(x.Vars), room(x.Drop), room(x.Skip), room(x.Keep))
	for _, v := range x.Vars {
		out = append(append(out, lies(v.Name)), nodeRooms(v.E)...)
	}
	for _, w := range slices.Concat(x.Skip, x.Keep) {
		if len(w) > 1 { // the library has all texts of one byte once for all
			out = append(out, lies(w))
		}
	}
	return out
}

// areApart holds that no two of all share memory.
func areApart(t *testing.T, all ...[2]uintptr) {
	t.Helper()
	for i, a := range all {
		for _, b := range all[:i] {
			if a[0] < b[1] && b[0] < a[1] {
				t.Error("memory is shared")
			}
		}
	}
}

// overwriteNode writes over all memory of an expression's lists, their spare
// room too.
func overwriteNode(e api.Node) {
	for _, kid := range e.Kids {
		overwriteNode(kid)
	}
	fill(e.Kids, api.Node{Kind: 77, Name: "other"})
	fill(e.Set, api.Range{Lo: 7, Hi: 7})
}

func fill[T any](list []T, with T) {
	list = list[:cap(list)]
	for i := range list {
		list[i] = with
	}
}

func overwriteRules(rules []api.Rule) {
	for _, r := range rules {
		overwriteNode(r.Left)
		overwriteNode(r.Right)
	}
	fill(rules, api.Rule{N: -7})
}

func overwrite(x api.Source) {
	for _, v := range x.Vars {
		overwriteNode(v.E)
	}
	overwriteRules(x.Rules)
	fill(x.Vars, api.Var{Name: "other"})
	fill(x.Drop, -7)
	fill(x.Skip, "other")
	fill(x.Keep, "other")
}

// roomyNode tells an expression like e, each of its lists with something in its
// spare room.
func roomyNode(e api.Node) api.Node {
	out := api.Node{Kind: e.Kind, At: e.At, Name: strings.Clone(e.Name)}
	for _, kid := range e.Kids {
		out.Kids = append(out.Kids, roomyNode(kid))
	}
	out.Kids = roomyList(out.Kids, api.Node{Kind: 66})
	out.Set = roomyList(e.Set, api.Range{Lo: 66, Hi: 66})
	return out
}

func roomyList[T any](list []T, spare T) []T {
	out := append(slices.Clone(list), spare, spare)
	fill(out[len(list):], spare)
	return out[:len(list)]
}

// roomy tells a source likewise.
func roomy(x api.Source) api.Source {
	x = plain(x)
	for i := range x.Vars {
		x.Vars[i].E = roomyNode(x.Vars[i].E)
	}
	for i, r := range x.Rules {
		x.Rules[i].Left, x.Rules[i].Right = roomyNode(r.Left), roomyNode(r.Right)
	}
	x.Vars, x.Rules = roomyList(x.Vars, api.Var{Name: "spare"}), roomyList(x.Rules, api.Rule{N: 66})
	x.Drop, x.Skip, x.Keep = roomyList(x.Drop, 66), roomyList(x.Skip, "spare"), roomyList(x.Keep, "spare")
	return x
}

// wholeNode tells all that an expression's lists have, what is in their spare
// room too.
func wholeNode(e api.Node) string {
	kids := e.Kids[:cap(e.Kids)]
	out := fmt.Sprint(e.Kind, e.At, e.Name, len(e.Set), e.Set[:cap(e.Set)], len(e.Kids), "(")
	for _, kid := range kids {
		out += wholeNode(kid)
	}
	return out + ")"
}

// whole tells likewise all that a source has.
func whole(x api.Source) string {
	out := fmt.Sprint(x.Parent, len(x.Vars), len(x.Rules), len(x.Drop), x.Drop[:cap(x.Drop)], len(x.Skip), x.Skip[:cap(x.Skip)], len(x.Keep), x.Keep[:cap(x.Keep)])
	for _, v := range x.Vars[:cap(x.Vars)] {
		out += fmt.Sprint(v.Name, wholeNode(v.E))
	}
	for _, r := range x.Rules[:cap(x.Rules)] {
		out += fmt.Sprint(r.N, r.Break, wholeNode(r.Left), wholeNode(r.Right))
	}
	return out
}

// Rule 3: no two lists of one answer share memory, nor two answers, nor an
// answer and what was handed in.
func TestAnswersAreNewMemory(t *testing.T) {
	for _, s := range samples() {
		s = strings.Clone(s)
		x, _, err := Parse(s)
		if err != api.OK {
			t.Fatal(err)
		}
		again, _, _ := Parse(s)
		areApart(t, slices.Concat([][2]uintptr{lies(s)}, rooms(x), rooms(again))...)
		rules, _ := Rules(x)
		others, _ := Rules(x)
		areApart(t, slices.Concat(rooms(x), ruleRooms(rules), ruleRooms(others), [][2]uintptr{lies(Print(x)), lies(Print(x))})...)
		want, wantRules := plain(x), plainRules(rules)
		overwrite(again)
		overwriteRules(others)
		if !reflect.DeepEqual(plain(x), want) || !reflect.DeepEqual(plainRules(rules), wantRules) {
			t.Errorf("%q: answers share memory", s)
		}
		overwrite(x)
		if !reflect.DeepEqual(plainRules(rules), wantRules) {
			t.Errorf("%q: the source was kept", s)
		}
		if third, _, _ := Parse(s); !reflect.DeepEqual(plain(third), want) {
			t.Errorf("%q is read otherwise now", s)
		}
	}
}

// Rule 3: what is handed in stays as it is, its spare room too.
func TestHandedInStays(t *testing.T) {
	for _, s := range samples() {
		x := roomy(isRead(t, s))
		bad := roomy(x)
		bad.Parent = "root"
		for _, x := range []api.Source{x, bad} {
			before := whole(x)
			Is(x)
			Print(x)
			Rules(x)
			if whole(x) != before {
				t.Errorf("%q was changed", s)
			}
		}
	}
}

// tell is what the calls tell of some texts.
func tell() string {
	var b strings.Builder
	others := []string{"what", "$a = $a", "parent x", "drop 1\ndrop 1", "1: ><\n%", strings.Repeat("\n", 2001), "skip \"\""}
	for _, s := range append(samples(), others...) {
		x, at, err := Parse(s)
		rules, bad := Rules(x)
		fmt.Fprintln(&b, plain(x), at, err, Print(x), Is(x), plainRules(rules), bad)
	}
	return b.String()
}

// Rule 6: an answer hangs on what is asked alone, not on what was asked before
// or is asked at once.
func TestAskedAtOnce(t *testing.T) {
	want := tell()
	answers := make([]string, 8)
	var wait sync.WaitGroup
	for i := range answers {
		wait.Go(func() { answers[i] = tell() })
	}
	wait.Wait()
	for _, got := range append(answers, tell()) {
		if got != want {
			t.Error("otherwise when asked at once")
		}
	}
}

// isIterator holds, by rule 7, that what is gone through can be left at any
// point, and gone through again, also while it is gone through.
func isIterator(t *testing.T, all iter.Seq[string], want []string) {
	t.Helper()
	for most := range len(want) + 1 {
		var got []string
		for line := range all {
			if len(got) == most {
				break
			}
			got = append(got, line)
			if inner := slices.Collect(all); !slices.Equal(inner, want) {
				t.Fatalf("%q within", inner)
			}
		}
		if !slices.Equal(got, want[:most]) {
			t.Errorf("%q, want %q", got, want[:most])
		}
	}
}

// Rule 7: lines that are read: the signs of each, its end with them, places
// untouched; behind a last line feed there is a line yet.
func TestLinesByIterator(t *testing.T) {
	for _, c := range []struct {
		s    string
		want []string
	}{
		{"", []string{"0@0"}},
		{"\n", []string{"7@0", "0@1"}},
		{"drop 1", []string{"8@0 3@5 0@6"}},
		{"drop 1\n", []string{"8@0 3@5 7@6", "0@7"}},
		{"\n$a = ()\n\n\n1: ><", []string{"7@0", "1@1 6@4 6@6 6@7 7@8", "7@9", "7@10", "3@11 6@12 6@14 0@16"}},
	} {
		signs, _, err := lex.Scan(c.s)
		if err != api.OK {
			t.Fatal(err)
		}
		isIterator(t, func(yield func(string) bool) {
			for line := range lines(signs) {
				var told []string
				for _, sign := range line {
					told = append(told, fmt.Sprintf("%d@%d", sign.Kind, sign.At))
				}
				if !yield(strings.Join(told, " ")) {
					return
				}
			}
		}, c.want)
	}
}

// Rule 7: lines that are printed likewise.
func TestPrintedLinesByIterator(t *testing.T) {
	x := api.Source{Parent: "en", Vars: many(2, variable), Rules: many(2, rule), Drop: many(2, number), Skip: many(2, word), Keep: many(2, word)}
	isIterator(t, printedLines(x), []string{"parent en", "$w0 = ()", "$w1 = ()", "drop 0", "drop 1", "0: () >< ()", "1: () >< ()", "keep \"w0\"", "keep \"w1\"", "skip \"w0\"", "skip \"w1\""})
	isIterator(t, printedLines(api.Source{}), nil)
}
