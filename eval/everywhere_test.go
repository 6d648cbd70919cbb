package eval

import (
	"fmt"
	"math/rand"
	"slices"
	"strings"
	"sync"
	"testing"

	"roster/api"
)

// roomyTexts are texts with spare room that has something in it.
func roomyTexts(texts []string) []string {
	return append(slices.Clone(texts), "spare", "room")[:len(texts)]
}

// roomy is a list all of whose lists have such room.
func roomy(f api.Filter) api.Filter {
	out := append(slices.Clone(f), has(1, "spare"), has(2, "room"))
	for i := range out {
		out[i].Parts.Any = roomyTexts(out[i].Parts.Any)
	}
	return out[:len(f)]
}

// roomyEntry is an entry all of whose lists have such room.
func roomyEntry(e api.Entry) api.Entry {
	e.Key = roomyTexts(e.Key)
	attrs := append(slices.Clone(e.Attrs), at("cn", "spare"), at("sn", "room"))
	for i := range attrs {
		attrs[i].Values = roomyTexts(attrs[i].Values)
	}
	e.Attrs = attrs[:len(e.Attrs)]
	return e
}

// whole is all that a list has, spare room too, as one text; wholeEntry the same of an entry.
func whole(f api.Filter) string {
	out := told(f[:cap(f)])
	for _, n := range f[:cap(f)] {
		out += fmt.Sprintf("%q", n.Parts.Any[:cap(n.Parts.Any)])
	}
	return out
}

func wholeEntry(e api.Entry) string {
	out := fmt.Sprintf("%d %q %q", e.Line, e.Name, e.Key[:cap(e.Key)])
	for _, a := range e.Attrs[:cap(e.Attrs)] {
		out += fmt.Sprintf(" %q %q %q", a.Desc, a.Canon, a.Values[:cap(a.Values)])
	}
	return out
}

func spoilTexts(texts []string) {
	for i := range texts[:cap(texts)] {
		texts[:cap(texts)][i] = "spoilt"
	}
}

// spoil writes over all that a list has, spare room too; spoilEntry the same of an entry.
func spoil(f api.Filter) {
	for i, n := range f[:cap(f)] {
		spoilTexts(n.Parts.Any)
		f[:cap(f)][i] = api.FilterNode{Depth: -7, Op: 77, Desc: "spoilt"}
	}
}

func spoilEntry(e api.Entry) {
	spoilTexts(e.Key)
	for i, a := range e.Attrs[:cap(e.Attrs)] {
		spoilTexts(a.Values)
		e.Attrs[:cap(e.Attrs)][i] = at("cn", "spoilt")
	}
}

// answers are all that the calls tell of a filter on an entry, as one text.
func answers(f api.Filter, e api.Entry) string {
	out := fmt.Sprint(Value(f, e), Run(f, []api.Entry{e, {}, e}))
	for _, n := range f {
		out += fmt.Sprint(Item(n, e))
	}
	test, err := Compile(f)
	if test != nil {
		out += fmt.Sprint(test.On(e), test.On(api.Entry{}), test.On(e))
	}
	return out + fmt.Sprint(err)
}

// P14.6, P0.1: nothing that is handed in is changed, spare room too; asked again, a call answers the same.
func TestNothingIsChanged(t *testing.T) {
	m := newMaker(149)
	for range 1000 {
		f, e := roomy(m.filter(1+m.Intn(5))), roomyEntry(m.entry())
		before, beforeEntry := whole(f), wholeEntry(e)
		first := answers(f, e)
		if again := answers(f, e); again != first {
			t.Fatalf("of %s it told %s, then %s", told(f), first, again)
		}
		if whole(f) != before || wholeEntry(e) != beforeEntry {
			t.Fatalf("%s or %s was changed", before, beforeEntry)
		}
	}
	ts := append([]api.Truth{7, T, -1}, F, U)[:3]
	And(ts...)
	Or(ts...)
	if !slices.Equal(ts[:5], []api.Truth{7, T, -1, F, U}) {
		t.Errorf("the truths became %d", ts[:5])
	}
	entries := []api.Entry{roomyEntry(ann()), {}, roomyEntry(full())}
	before := fmt.Sprintf("%#v", entries)
	Run(under(api.Or, list(no), list(ext(1, "ou", "", "sales", true))), entries[:2])
	if fmt.Sprintf("%#v", entries) != before {
		t.Error("Run changed the entries")
	}
}

// P14.6, P0.1: what the caller writes into an entry once it was asked of is seen nowhere, but where that entry is asked of again.
func TestNothingIsKept(t *testing.T) {
	m := newMaker(150)
	for range 500 {
		f, e, other := m.filter(1+m.Intn(5)), roomyEntry(m.entry()), m.entry()
		test, _ := Compile(f)
		test.On(e)
		values := Run(f, []api.Entry{e, other})
		want := slices.Clone(values)
		spoilEntry(e)
		if got := test.On(other); got != slowValue(f, other) {
			t.Fatalf("On of %s = %d on %#v", told(f), got, other)
		}
		if got := test.On(e); got != slowValue(f, e) {
			t.Fatalf("On of %s = %d on %#v", told(f), got, e)
		}
		if !slices.Equal(values, want) {
			t.Fatalf("the answer %d became %d", want, values)
		}
	}
}

// P14.6, P0.1: two answers of Run share no memory, spare room too; two Tests of one filter are two.
func TestAnswersShareNothing(t *testing.T) {
	f, entries := list(yes), []api.Entry{ann(), {}, ann(), {}, {}}
	for many := range len(entries) + 1 {
		one, other := Run(f, entries[:many]), Run(f, entries[:many])
		want := slices.Clone(other)
		_ = append(one, 9)
		for i := range one[:cap(one)] {
			one[:cap(one)][i] = -7
		}
		if third := Run(f, entries[:many]); !slices.Equal(other, want) || !slices.Equal(third, want) {
			t.Errorf("%d became %d, and %d behind it", want, other, third)
		}
	}
	test, _ := Compile(f)
	other, _ := Compile(f)
	if test == other {
		t.Error("one Test for two")
	}
	*test = Test{}
	if other.On(ann()) != T {
		t.Error("a Test that is written over changes another")
	}
}

// P0.1: nil and empty lists are the same, in the filter and in the entry.
func TestNilAndEmpty(t *testing.T) {
	asNil := []api.Entry{{}, named("cn=a", at("cn"), at("mail")), {Attrs: []api.Attr{{Canon: "cn"}, {Canon: "uidnumber"}}}}
	asEmpty := []api.Entry{{Key: []string{}, Attrs: []api.Attr{}}, named("cn=a", at("cn", []string{}...), at("mail", []string{}...)), {Attrs: []api.Attr{{Canon: "cn", Values: []string{}}, {Canon: "uidnumber", Values: []string{}}}}}
	m := newMaker(151)
	for range 500 {
		f := m.filter(1 + m.Intn(3))
		g := slices.Clone(f)
		for i := range g {
			if len(g[i].Parts.Any) == 0 {
				g[i].Parts.Any = []string{}
			}
		}
		for i := range asNil {
			if answers(f, asNil[i]) != answers(g, asEmpty[i]) {
				t.Fatalf("of %s nil and empty lists are told apart on %#v", told(f), asNil[i])
			}
		}
	}
	if answers(nil, ann()) != answers(api.Filter{}, ann()) || len(Run(nil, nil)) != len(Run(api.Filter{}, []api.Entry{})) {
		t.Error("nil and the empty filter are told apart")
	}
}

// someBytes is a text of any bytes.
func someBytes(r *rand.Rand, longest int) string {
	b := make([]byte, r.Intn(longest+1))
	r.Read(b)
	return string(b)
}

// P14.6: no call panics, at any list of any nodes and any entry; what is told is what the chapter says.
func TestNoneRefused(t *testing.T) {
	m := newMaker(152)
	text := func(from []string) string {
		if m.Intn(3) == 0 {
			return someBytes(m.Rand, 5)
		}
		return pick(m.Rand, from)
	}
	for range 3000 {
		e := named(text([]string{"cn=Ann", "ou=Sales,o=x", ""}))
		for range m.Intn(4) {
			e.Attrs = append(e.Attrs, at(text(m.descs), text(m.values), text(m.values)))
		}
		var f api.Filter
		for depth := range 1 + m.Intn(4) {
			n := api.FilterNode{Depth: depth + m.Intn(3), Op: api.FilterOp(m.Intn(12) - 1), Desc: text(m.descs), Value: text(m.values), Rule: text([]string{"", "wordMatch"}), DNAttrs: m.Intn(2) == 0}
			for range m.Intn(3) {
				n.Parts.Any = append(n.Parts.Any, text(m.values))
			}
			f = append(f, n)
			holdItem(t, n, e, slowItem(n, e))
		}
		holdValue(t, f, e, slowValue(f, e))
		holdCompile(t, f, e)
		answers(f, e)
	}
}

// P14.6: long texts, many values, many pieces, and wide and deep filters end.
func TestLongTexts(t *testing.T) {
	long := strings.Repeat("Ann  Lee ", 20000)
	e := named("cn=Ann", at("cn", long), at("sn", slices.Repeat([]string{"x"}, 50000)...), at("cn"+strings.Repeat(";x", 2000), "y"), at(long, "z"))
	holdItem(t, eq(1, "cn", strings.Repeat(" ann lee", 20000)), e, T)
	holdItem(t, eq(1, "cn", long+"x"), e, F)
	holdItem(t, eq(1, "sn", "y"), e, F)
	holdItem(t, eq(1, "name;x", "y"), e, T)
	holdItem(t, eq(1, long, "z"), e, U)
	holdItem(t, ext(1, "", "wordMatch", "lee", true), e, T)
	holdItem(t, ext(1, "", "wordMatch", "le", true), e, F)
	holdItem(t, sub(1, "cn", "ann", slices.Repeat([]string{"lee"}, 20000), ""), e, T)
	holdItem(t, sub(1, "cn", "ann", slices.Repeat([]string{"lee"}, 20001), ""), e, F)
	holdItem(t, ext(1, "", long, "x", true), e, U)
	holdItem(t, with(1, api.AtLeast, "uidNumber", strings.Repeat("9", 100000)), named("", at("uidnumber", "1"+strings.Repeat("0", 100000))), T)
	f := list(op(1, api.Or))
	for range 200 {
		f = append(f, deeper(chain(api.Not, api.MaxFilter-3, no), 1)...)
	}
	holdValue(t, f, e, F)
	holdValue(t, append(f, has(2, "cn")), e, T)
}

// P14.4, P0.1: many may ask one Test, and compile others, at once.
func TestManyAtOnce(t *testing.T) {
	m := newMaker(153)
	entries := someEntries()
	var filters []api.Filter
	var tests []*Test
	var want [][]api.Truth
	for range 20 {
		f := m.filter(4)
		test, _ := Compile(f)
		filters, tests, want = append(filters, f), append(tests, test), append(want, Run(f, entries))
	}
	var group sync.WaitGroup
	for range 8 {
		group.Go(func() {
			for i, test := range tests {
				if got := Run(filters[i], entries); !slices.Equal(got, want[i]) {
					t.Errorf("Run told %d, want %d", got, want[i])
				}
				for place, e := range entries {
					if got := test.On(e); got != want[i][place] {
						t.Errorf("On told %d, want %d", got, want[i][place])
					}
				}
			}
		})
	}
	group.Wait()
}
