package filter

import (
	"fmt"
	"math/rand"
	"slices"
	"strings"
	"sync"
	"testing"

	"roster/api"
)

// roomyTexts are texts with spare room that has something in it.
func roomyTexts(texts []string) []string {
	return append(slices.Clone(texts), "spare", "room")[:len(texts)]
}

// roomy is a list all of whose lists have such room.
func roomy(f api.Filter) api.Filter {
	out := append(slices.Clone(f), has(1, "spare"), has(2, "room"))
	for i := range out {
		out[i].Parts.Any = roomyTexts(out[i].Parts.Any)
	}
	return out[:len(f)]
}

// whole is all that a list has, spare room too, as one text.
func whole(f api.Filter) string {
	out := told(f[:cap(f)])
	for _, n := range f[:cap(f)] {
		out += fmt.Sprintf("%q", n.Parts.Any[:cap(n.Parts.Any)])
	}
	return out
}

// spoil writes over all that a list has, spare room too.
func spoil(f api.Filter) {
	for i, n := range f[:cap(f)] {
		for j := range n.Parts.Any[:cap(n.Parts.Any)] {
			n.Parts.Any[:cap(n.Parts.Any)][j] = "spoilt"
		}
		f[:cap(f)][i] = api.FilterNode{Depth: -7, Op: 77, Desc: "spoilt"}
	}
}

// answers are all filters that the calls answer of one, the text and the element among what is asked.
func answers(f api.Filter) []api.Filter {
	var out []api.Filter
	s, _ := Print(f)
	parsed, _, _ := Parse(s)
	b, _ := Encode(f)
	decoded, _ := Decode(b)
	pushed, _ := Push(f)
	grouped, _ := Group(api.Or, f, f)
	turned, _ := Group(api.Not, f)
	out = append(out, parsed, decoded, pushed, grouped, turned)
	for range 2 {
		out = append(out, kidsOf(f)...)
	}
	return out
}

// toldOf is all that the calls tell of one list.
func toldOf(f api.Filter) string {
	err, number := Check(f)
	s, noText := Print(f)
	b, noElement := Encode(f)
	return fmt.Sprintf("%d %d %q %d %q %d %d %v\n%s", err, number, s, noText, b, noElement, Depth(f), Equal(f, f), toldAll(answers(f)))
}

// P12.11, P0.1: nothing that is handed in is changed, spare room too; asked again, a call answers the same.
func TestNothingIsChanged(t *testing.T) {
	r := rand.New(rand.NewSource(130))
	for range 1000 {
		f, g := roomy(someFilter(r)), roomy(someList(r))
		beforeF, beforeG := whole(f), whole(g)
		firstF, firstG := toldOf(f), toldOf(g)
		fs := []api.Filter{f, g, f, g}
		Group(api.And, fs[:2]...)
		Equal(f, g)
		if toldOf(f) != firstF || toldOf(g) != firstG {
			t.Fatalf("asked again of %s or %s, a call answers something else", told(f), told(g))
		}
		if whole(f) != beforeF || whole(g) != beforeG || toldAll(fs) != toldAll([]api.Filter{f, g, f, g}) {
			t.Fatalf("%s or %s was changed", beforeF, beforeG)
		}
	}
}

// P12.11, P0.1: what the caller writes later into what was handed in is seen in no answer, in a Kids that is ranged over later neither.
func TestNothingIsKept(t *testing.T) {
	r := rand.New(rand.NewSource(131))
	for range 1000 {
		f := roomy(someFilter(r))
		want, wantKids := toldAll(answers(f)), toldAll(slowKids(f))
		given, kids := answers(f), Kids(f)
		spoil(f)
		if got := toldAll(given); got != want {
			t.Fatalf("the answers\n%sbecame\n%s", want, got)
		}
		var got []api.Filter
		for kid := range kids {
			got = append(got, kid)
		}
		if toldAll(got) != wantKids {
			t.Fatalf("Kids gives\n%swant\n%s", toldAll(got), wantKids)
		}
	}
	// What was no filter stays without kids.
	f := list(op(1, api.And), has(3, "a"))
	kids := Kids(f)
	f[1].Depth = 2
	for kid := range kids {
		t.Errorf("Kids of what was no filter gives %s", told(kid))
	}
}

// P12.11, P0.1: no two answers share memory, each written over alone, spare room too; nor does one with what was handed in.
func TestAnswersShareNothing(t *testing.T) {
	r := rand.New(rand.NewSource(132))
	for range 200 {
		f := roomy(someFilter(r))
		before := whole(f)
		all := append(answers(f), answers(f)...)
		for i := range all {
			want := make([]string, len(all))
			for j := range all {
				want[j] = told(all[j])
			}
			_ = append(all[i], has(1, "more"))
			for _, n := range all[i] {
				_ = append(n.Parts.Any, "more")
			}
			spoil(all[i])
			for j := range all {
				if j != i && told(all[j]) != want[j] {
					t.Fatalf("of %s the answer %d changes the answer %d", told(f), i, j)
				}
			}
		}
		if whole(f) != before {
			t.Fatalf("an answer changes %s", before)
		}
	}
}

// P12.11, P0.1: the lists in one answer share nothing with each other.
func TestListsInOneAnswer(t *testing.T) {
	f, _, _ := Parse("(&(a=*b*c*)(a=*b*c*)(!(a=x*b*c*y)))")
	for _, g := range append(answers(f), f) {
		for i := range g {
			want := told(g[:i]) + told(g[i+1:])
			for j := range g[i].Parts.Any[:cap(g[i].Parts.Any)] {
				g[i].Parts.Any[:cap(g[i].Parts.Any)][j] = "spoilt"
			}
			if told(g[:i])+told(g[i+1:]) != want {
				t.Errorf("two pieces of %s share memory", told(g))
			}
		}
	}
}

// P12.11, P0.1: what is written into a kid is not seen in the next one, nor when it is ranged over again.
func TestKidsShareNothing(t *testing.T) {
	f := list(op(1, api.And), sub(2, "a", "", []string{"x", "y"}, ""), op(2, api.Not), sub(3, "b", "", []string{"x"}, ""), sub(2, "c", "i", []string{"z"}, ""))
	want, all := slowKids(f), Kids(f)
	for range 3 {
		number := 0
		for kid := range all {
			hold(t, "a kid", kid, want[number])
			_ = append(kid, has(1, "more"))
			spoil(kid)
			number++
		}
	}
}

// P0.1: nil and empty lists are the same, as a filter and as pieces.
func TestNilAndEmpty(t *testing.T) {
	if toldOf(nil) != toldOf(api.Filter{}) {
		t.Error("nil and the empty list are told apart")
	}
	for _, n := range []api.FilterNode{op(1, api.And), has(1, "a"), eq(1, "a", "b"), ext(1, "a", "", "", true), sub(1, "a", "x", nil, "")} {
		m := n
		m.Parts.Any = []string{}
		if toldOf(list(n)) != toldOf(list(m)) {
			t.Errorf("of %s nil and empty pieces are told apart", told(list(n)))
		}
	}
	if f, err := Group(api.And, nil...); err != api.OK || told(f) != told(list(op(1, api.And))) {
		t.Errorf("Group of nil: %s, %d", told(f), err)
	}
}

// P12.11: no call panics or goes on for ever, at any list, text or bytes.
func TestNoneRefused(t *testing.T) {
	r := rand.New(rand.NewSource(133))
	for range 3000 {
		var f api.Filter
		for range r.Intn(6) {
			n := api.FilterNode{Depth: r.Intn(6), Op: api.FilterOp(r.Intn(12) - 1), Desc: someBytes(r, 2), DNAttrs: r.Intn(4) == 0}
			for range r.Intn(3) {
				n = spoiltNode(r, n)
			}
			f = append(f, n)
		}
		toldOf(f)
		Equal(f, someList(r))
		if f, err, _ := Parse(someBytes(r, 12)); err == api.OK {
			toldOf(f)
		}
		if f, err := Decode(someBytes(r, 12)); err == api.OK {
			toldOf(f)
		}
	}
}

// P12.11: long texts and wide filters.
func TestLongTexts(t *testing.T) {
	long := strings.Repeat(`a\2a`, 50000)
	f, err, _ := Parse("(cn=" + long + ")")
	if err != api.OK || f[0].Value != strings.Repeat("a*", 50000) {
		t.Errorf("a long value: %d", err)
	}
	f, err, _ = Parse("(cn=*" + strings.Repeat("a*", 50000) + ")")
	if err != api.OK || len(f[0].Parts.Any) != 50000 {
		t.Errorf("many pieces: %d", err)
	}
	f, err, _ = Parse("(&" + strings.Repeat("(!(a=*))", 20000) + ")")
	if err != api.OK || len(f) != 40001 {
		t.Fatalf("many kids: %d", err)
	}
	if kids := kidsOf(f); len(kids) != 20000 {
		t.Errorf("many kids: %d", len(kids))
	}
	b, err := Encode(f)
	g, _ := Decode(b)
	if err != api.OK || !Equal(f, g) {
		t.Errorf("many kids: %d, and not the same back", err)
	}
	if s, _ := Print(g); s != "(&"+strings.Repeat("(!(a=*))", 20000)+")" {
		t.Error("many kids print otherwise")
	}
	options := "cn" + strings.Repeat(";x", 20000)
	if _, err, at := Parse("(" + options + ";=a)"); err != api.ErrFilter || at != len(options)+2 {
		t.Errorf("many options: %d, %d", err, at)
	}
}

// P12.11, P0.1: many may call at once, and range over one Kids.
func TestManyAtOnce(t *testing.T) {
	f := list(op(1, api.And), sub(2, "a", "", []string{"x", "y"}, ""), op(2, api.Not), op(3, api.Or), eq(4, "b", "c"))
	want, all, wantKids := toldOf(f), Kids(f), toldAll(slowKids(f))
	var group sync.WaitGroup
	for range 8 {
		group.Go(func() {
			for range 50 {
				if got := toldOf(f); got != want {
					t.Errorf("it told %s", got)
				}
				got := ""
				for kid := range all {
					got += told(kid) + "\n"
					spoil(kid)
				}
				if got != wantKids {
					t.Errorf("Kids gave %s", got)
				}
				if _, err, at := Parse("(!(a=b)(c=d))"); err != api.ErrFilter || at != 7 {
					t.Errorf("Parse answered %d, %d", err, at)
				}
			}
		})
	}
	group.Wait()
}
