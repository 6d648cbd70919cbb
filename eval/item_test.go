package eval

import (
	"fmt"
	"math"
	"testing"

	"roster/api"
	"roster/attr"
)

// P14.2: the chapter's examples.
func TestItemExamples(t *testing.T) {
	for _, c := range []struct {
		n    api.FilterNode
		want api.Truth
	}{
		{has(1, "cn"), T}, {has(1, "name"), T}, {has(1, "sn"), F}, {has(1, "mail"), F}, {has(1, "x-odd"), U}, {has(1, "c n"), U},
		{eq(1, "commonName", "ANN"), T}, {eq(1, "cn", "Bob"), F}, {eq(1, "cn", ""), U}, {eq(1, "sn", ""), U}, {eq(1, "x-odd", "1"), U},
		{eq(1, "uidNumber", "7"), T}, {eq(1, "uidNumber", "x"), U}, {eq(1, "uidNumber", "07"), U}, {eq(1, "uidNumber", "8"), F},
		{with(1, api.Approx, "cn", " ann "), T},
		{with(1, api.AtLeast, "uidNumber", "7"), T}, {with(1, api.AtLeast, "uidNumber", "8"), F}, {with(1, api.AtLeast, "uidNumber", "x"), U},
		{with(1, api.AtMost, "cn", "b"), T}, {with(1, api.AtMost, "mail", "b"), U},
		{sub(1, "cn", "an", nil, ""), T}, {sub(1, "sn", "", nil, ""), U}, {sub(1, "uidNumber", "7", nil, ""), U},
	} {
		holdItem(t, c.n, ann(), c.want)
		if got := slowItem(c.n, ann()); got != c.want {
			t.Errorf("the slow answer to %s is %d", told(list(c.n)), got)
		}
	}
}

// valued are the Ops that hold a Value against values, with what each answers where the value is less than what is sought, the same, more.
var valued = []struct {
	op               api.FilterOp
	less, same, more api.Truth
	order            bool
}{
	{api.Equality, F, T, F, false},
	{api.Approx, F, T, F, false},
	{api.AtLeast, F, T, T, true},
	{api.AtMost, T, T, F, true},
}

// P14.2: the items with a Value, of each syntax: values that are less, the same, more, none of it, and none at all.
func TestValuesOfEachSyntax(t *testing.T) {
	for _, one := range samples() {
		for _, o := range valued {
			n := with(1, o.op, one.desc, one.same)
			less, same, more, none := o.less, o.same, o.more, F
			if o.order && !one.ordered {
				less, same, more, none = U, U, U, U
			}
			holdItem(t, n, named("", at(one.canon, one.value)), same)
			holdItem(t, n, named("", at(one.canon)), none)
			holdItem(t, n, named(""), none)
			holdItem(t, n, named("", at("x-odd", one.value)), none)
			if one.ordered {
				holdItem(t, n, named("", at(one.canon, one.less)), less)
				holdItem(t, n, named("", at(one.canon, one.more)), more)
				holdItem(t, n, named("", at(one.canon, one.less, one.more)), max(less, more))
				holdItem(t, n, named("", at(one.canon, one.less), at(one.canon, one.value)), same)
			}
			if one.s == api.SynOctet {
				continue
			}
			holdItem(t, n, named("", at(one.canon, one.none)), none)
			holdItem(t, n, named("", at(one.canon, one.none, one.value)), same)
			for _, e := range []api.Entry{named(""), named("", at(one.canon, one.none)), named("", at(one.canon, one.value))} {
				holdItem(t, with(1, o.op, one.desc, one.none), e, U)
			}
		}
	}
}

// P14.2: pieces of each syntax.
func TestPiecesOfEachSyntax(t *testing.T) {
	for _, one := range samples() {
		with, without := named("", at(one.canon, one.none, one.value)), named("", at("x-odd", one.value))
		yes, no := T, F
		if !one.partial {
			yes, no = U, U
		}
		first, last := one.value[:1], one.value[len(one.value)-1:]
		for _, n := range []api.FilterNode{sub(1, one.desc, first, nil, ""), sub(1, one.desc, "", nil, last), sub(1, one.desc, first, []string{""}, last), sub(1, one.desc, "", []string{one.value[1:2]}, last)} {
			holdItem(t, n, with, yes)
			holdItem(t, n, without, no)
		}
		holdItem(t, sub(1, one.desc, first+first+first, nil, ""), with, no)
		holdItem(t, sub(1, one.desc, "", []string{one.value, last}, ""), with, no)
		holdItem(t, sub(1, one.desc, "", nil, ""), with, U)
		holdItem(t, sub(1, one.desc, "", []string{}, ""), with, U)
		if one.s != api.SynOctet && one.s != api.SynExact {
			for _, n := range []api.FilterNode{sub(1, one.desc, one.none, nil, ""), sub(1, one.desc, first, []string{first, one.none}, ""), sub(1, one.desc, "", nil, one.none)} {
				holdItem(t, n, with, U)
				holdItem(t, n, without, U)
			}
		}
	}
	// A value that is not of the syntax has no piece, not even one that is empty in its normal form.
	for _, piece := range []string{" ", "\t "} {
		holdItem(t, sub(1, "cn", piece, nil, ""), named("", at("cn", "a")), T)
		holdItem(t, sub(1, "cn", piece, nil, ""), named("", at("cn", "", "\xff")), F)
	}
}

// items are one of each Op that looks at values, with this description and what suits most values.
func items(desc, value string) []api.FilterNode {
	return []api.FilterNode{
		has(1, desc), eq(1, desc, value), with(1, api.Approx, desc, value), with(1, api.AtLeast, desc, value), with(1, api.AtMost, desc, value),
		sub(1, desc, value, nil, ""), ext(1, desc, "", value, false), ext(1, desc, "caseIgnoreMatch", value, false),
	}
}

// P14.2: what is no description, and what isn't known, is Undefined of every Op, whatever the entry has.
func TestDescriptionsThatAreNone(t *testing.T) {
	for _, desc := range append(oddDescs, strangers...) {
		for _, value := range []string{"Ann", "1", ""} {
			for _, n := range items(desc, value) {
				if n.Op == api.Extensible && n.Desc == "" && n.Rule != "" {
					continue // without a description, which is something else
				}
				for _, e := range append(someEntries(), named("x-odd=Ann", at(desc, "Ann", "1"))) {
					holdItem(t, n, e, U)
				}
			}
		}
	}
}

// P14.2: which attributes are covered: other names, other cases, super types, options.
func TestCovered(t *testing.T) {
	for _, c := range []struct {
		desc, canon string
		want        api.Truth
	}{
		{"cn", "cn", T}, {"CN", "cn", T}, {"commonName", "cn", T}, {"COMMONNAME", "cn", T}, {"2.5.4.3", "cn", T},
		{"name", "cn", T}, {"NAME", "cn", T}, {"2.5.4.41", "c-ou", T}, {"ou", "c-ou", T}, {"name", "c-ou", T},
		{"cn", "name", F}, {"sn", "cn", F}, {"c-ou", "ou", F}, {"uid", "cn", F},
		{"cn", "cn;lang-de", T}, {"name", "cn;lang-de;x", T}, {"cn;lang-de", "cn", F}, {"cn;LANG-DE", "cn;lang-de", T},
		{"cn;x;lang-de;x", "cn;lang-de;x", T}, {"cn;lang-de;x", "cn;lang-de", F}, {"name;lang-de", "sn;lang-de", T}, {"name;lang", "sn;lang-de", F},
		{"cn", "CN", T}, {"cn", "commonName;X", T}, {"cn", "cn;", F}, {"cn", "c n", F}, {"cn", "", F}, {"cn", "x-odd", F},
	} {
		for _, e := range []api.Entry{named("o=x", at(c.canon, "Ann")), named("o=x", at(c.canon), at(c.canon, "\xff", "Ann")), named("o=x", api.Attr{Desc: "uid", Canon: c.canon, Values: []string{"Ann"}})} {
			for _, n := range items(c.desc, "ANN") {
				holdItem(t, n, e, c.want)
			}
		}
		// Without a value there is none that could be covered; what Desc says makes no difference.
		for _, e := range []api.Entry{named("o=x", at(c.canon)), named("o=x", api.Attr{Desc: c.canon, Canon: "uid", Values: []string{"Ann"}})} {
			if attr.Covers(c.desc, "uid") {
				continue
			}
			for _, n := range items(c.desc, "ANN") {
				holdItem(t, n, e, F)
			}
		}
	}
}

// P14.2: a value that is not of the syntax is there, but fulfils nothing.
func TestValuesThatAreNotOfTheSyntax(t *testing.T) {
	e := named("", at("uidnumber", "x", "07", ""), at("cn", "", "\xff"))
	holdItem(t, has(1, "uidNumber"), e, T)
	holdItem(t, has(1, "cn"), e, T)
	for _, n := range items("cn", "a")[1:] {
		holdItem(t, n, e, F)
	}
	for _, value := range []string{"7", "0", "-99999999999999999999"} {
		for _, n := range []api.FilterNode{eq(1, "uidNumber", value), with(1, api.AtLeast, "uidNumber", value), with(1, api.AtMost, "uidNumber", value), ext(1, "uidNumber", "", value, true), ext(1, "", "integerMatch", value, false)} {
			holdItem(t, n, e, F)
		}
	}
}

// P14.2: numbers are held against each other as numbers, of any length.
func TestNumbers(t *testing.T) {
	e := named("", at("uidnumber", "99999999999999999999", "-5"))
	for _, c := range []struct {
		value        string
		least, most  api.Truth
		equal, ahead api.Truth
	}{
		{"99999999999999999999", T, T, T, T}, {"99999999999999999998", T, T, F, T}, {"100000000000000000000", F, T, F, T},
		{"-5", T, T, T, F}, {"-6", T, F, F, F}, {"-4", T, T, F, T}, {"9", T, T, F, T}, {"-50", T, F, F, F},
	} {
		holdItem(t, with(1, api.AtLeast, "uidNumber", c.value), e, c.least)
		holdItem(t, with(1, api.AtMost, "uidNumber", c.value), e, c.most)
		holdItem(t, eq(1, "uidNumber", c.value), e, c.equal)
		holdItem(t, ext(1, "uidNumber", "integerOrderingMatch", c.value, false), e, c.ahead)
	}
}

// P14.2: And, Or, Not and numbers that are no Op.
func TestOtherOps(t *testing.T) {
	for _, o := range []api.FilterOp{api.And, api.Or, api.Not, -1, 10, 11, 99, math.MinInt, math.MaxInt} {
		for _, e := range someEntries() {
			holdItem(t, op(1, o), e, U)
			holdItem(t, with(1, o, "cn", "Ann"), e, U)
			holdItem(t, api.FilterNode{Op: o, Desc: "cn", Value: "Ann", Parts: api.Pattern{Initial: "A"}, Rule: "caseIgnoreMatch", DNAttrs: true}, e, U)
		}
	}
}

// unasked is the node with something in each field that its Op doesn't ask for, and another Depth.
func unasked(n api.FilterNode, depth int) api.FilterNode {
	n.Depth = depth
	if n.Op != api.Substrings {
		n.Parts = api.Pattern{Initial: "\xff", Any: []string{"", "z"}, Final: "q"}
	}
	if n.Op == api.Present || n.Op == api.Substrings {
		n.Value = "\xff"
	}
	if n.Op != api.Extensible {
		n.Rule, n.DNAttrs = "nope", true
	}
	return n
}

// P14.2: what the Op doesn't ask for makes no difference, nor does the Depth.
func TestFieldsThatAreNotAskedFor(t *testing.T) {
	m := newMaker(141)
	for _, depth := range []int{0, -1, 1, 2, 64, 65, math.MaxInt, math.MinInt} {
		for range 300 {
			n, e := m.item(), m.entry()
			want := slowItem(n, e)
			holdItem(t, n, e, want)
			holdItem(t, unasked(n, depth), e, want)
		}
	}
	// The entry's Line, Key and its attributes' Desc make none either.
	for range 500 {
		n, e := m.item(), m.entry()
		want := Item(n, e)
		e.Line, e.Key = 7, []string{"cn=bo"}
		var attrs []api.Attr
		for _, a := range e.Attrs {
			attrs = append(attrs, api.Attr{Desc: "uidNumber", Canon: a.Canon, Values: a.Values})
		}
		e.Attrs = attrs
		holdItem(t, n, e, want)
	}
}

// P14.2: every description with every value on every entry.
func TestItemsAllThrough(t *testing.T) {
	values := someValues()
	for place, e := range someEntries() {
		t.Run(fmt.Sprint(place), func(t *testing.T) {
			t.Parallel()
			for _, desc := range someDescs() {
				holdItem(t, has(1, desc), e, slowItem(has(1, desc), e))
				for _, value := range values {
					for _, n := range []api.FilterNode{eq(1, desc, value), with(1, api.AtLeast, desc, value), with(1, api.AtMost, desc, value), sub(1, desc, "", []string{value}, "")} {
						holdItem(t, n, e, slowItem(n, e))
					}
				}
			}
		})
	}
}

// P14.2: items by chance.
func TestItemsAtRandom(t *testing.T) {
	m := newMaker(142)
	for range 20000 {
		n, e := m.item(), m.entry()
		holdItem(t, n, e, slowItem(n, e))
	}
}
