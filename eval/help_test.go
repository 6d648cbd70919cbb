package eval

import (
	"fmt"
	"math/rand"
	"slices"
	"strings"
	"testing"

	"roster/api"
	"roster/attr"
	"roster/dn"
	"roster/entry"
	"roster/filter"
	"roster/match"
)

const (
	F = api.False
	U = api.Undefined
	T = api.True
)

// Nodes and entries, short.

func list(nodes ...api.FilterNode) api.Filter { return nodes }

func op(depth int, o api.FilterOp) api.FilterNode { return api.FilterNode{Depth: depth, Op: o} }

func with(depth int, o api.FilterOp, desc, value string) api.FilterNode {
	return api.FilterNode{Depth: depth, Op: o, Desc: desc, Value: value}
}

func has(depth int, desc string) api.FilterNode { return with(depth, api.Present, desc, "") }

func eq(depth int, desc, value string) api.FilterNode { return with(depth, api.Equality, desc, value) }

func sub(depth int, desc, initial string, between []string, final string) api.FilterNode {
	return api.FilterNode{Depth: depth, Op: api.Substrings, Desc: desc, Parts: api.Pattern{Initial: initial, Any: between, Final: final}}
}

func ext(depth int, desc, rule, value string, names bool) api.FilterNode {
	return api.FilterNode{Depth: depth, Op: api.Extensible, Desc: desc, Rule: rule, Value: value, DNAttrs: names}
}

// deeper are the nodes, each so much deeper.
func deeper(f api.Filter, by int) api.Filter {
	f = slices.Clone(f)
	for i := range f {
		f[i].Depth += by
	}
	return f
}

// under is a node over filters.
func under(o api.FilterOp, fs ...api.Filter) api.Filter {
	out := list(op(1, o))
	for _, f := range fs {
		out = append(out, deeper(f, 1)...)
	}
	return out
}

// chain is so many nodes of one Op, each alone in the one ahead of it, and a last one beneath them.
func chain(o api.FilterOp, many int, last api.FilterNode) api.Filter {
	f := list(last)
	for range many {
		f = under(o, f)
	}
	return f
}

func at(canon string, values ...string) api.Attr {
	return api.Attr{Desc: "desc of " + canon, Canon: canon, Values: values}
}

func named(name string, attrs ...api.Attr) api.Entry {
	return api.Entry{Name: name, Attrs: attrs}
}

// ann is the chapter's entry.
func ann() api.Entry {
	return api.Entry{Name: "cn=Ann,ou=Sales,o=x", Key: []string{"o=x", "ou=sales", "cn=ann"}, Attrs: []api.Attr{
		at("cn", "Ann"), at("objectclass", "person"), at("uidnumber", "7", "x"), at("mail"), at("x-odd", "1"),
	}}
}

// told is a list as a text.
func told(f api.Filter) string {
	var out strings.Builder
	for _, n := range f {
		fmt.Fprintf(&out, "{%d %d %q %q %q %q %q %q %v}", n.Depth, n.Op, n.Desc, n.Value, n.Parts.Initial, n.Parts.Any, n.Parts.Final, n.Rule, n.DNAttrs)
	}
	return out.String()
}

func holdItem(t *testing.T, n api.FilterNode, e api.Entry, want api.Truth) {
	t.Helper()
	if got := Item(n, e); got != want {
		t.Errorf("Item(%s) = %d, want %d, on %#v", told(list(n)), got, want, e)
	}
}

func holdValue(t *testing.T, f api.Filter, e api.Entry, want api.Truth) {
	t.Helper()
	if got := Value(f, e); got != want {
		t.Errorf("Value(%s) = %d, want %d, on %#v", told(f), got, want, e)
	}
}

// The chapter's words, told a second time.

func slowAnd(ts ...api.Truth) api.Truth {
	if slices.Contains(ts, F) {
		return F
	}
	if slices.ContainsFunc(ts, func(t api.Truth) bool { return t != T }) {
		return U
	}
	return T
}

func slowNot(t api.Truth) api.Truth {
	switch t {
	case T:
		return F
	case F:
		return T
	}
	return U
}

func slowOr(ts ...api.Truth) api.Truth {
	var turned []api.Truth
	for _, t := range ts {
		turned = append(turned, slowNot(t))
	}
	return slowNot(slowAnd(turned...))
}

// oneTrue is True if one of the values is, else False.
func oneTrue(values []string, asked func(value string) api.Truth) api.Truth {
	for _, value := range values {
		if asked(value) == T {
			return T
		}
	}
	return F
}

func slowItem(n api.FilterNode, e api.Entry) api.Truth {
	s := attr.Syntax(n.Desc)
	if n.Op == api.Extensible {
		return slowRule(n, e)
	}
	if s == api.SynNone {
		return U
	}
	values := entry.Values(e, n.Desc)
	_, of := match.Normal(s, n.Value)
	switch n.Op {
	case api.Present:
		return oneTrue(values, func(string) api.Truth { return T })
	case api.Equality, api.Approx:
		if !of {
			return U
		}
		return oneTrue(values, func(value string) api.Truth { return match.Equal(s, value, n.Value) })
	case api.AtLeast, api.AtMost:
		if !of || !match.Ordered(s) {
			return U
		}
		return oneTrue(values, func(value string) api.Truth {
			if n.Op == api.AtMost {
				return match.AtMost(s, value, n.Value)
			}
			return match.AtLeast(s, value, n.Value)
		})
	case api.Substrings:
		if _, ok := match.Parts(s, n.Parts); !ok {
			return U
		}
		return oneTrue(values, func(value string) api.Truth { return match.Contains(s, value, n.Parts) })
	}
	return U
}

// slowRule goes through the cases of an Extensible item in the chapter's order.
func slowRule(n api.FilterNode, e api.Entry) api.Truth {
	s := attr.Syntax(n.Desc)
	r, known := match.RuleOf(n.Rule)
	switch {
	case n.Rule == "" && n.Desc == "":
		return U
	case n.Desc != "" && s == api.SynNone:
		return U
	case n.Rule != "" && !known:
		return U
	}
	if n.Rule == "" {
		r = match.RuleFor(s)
	}
	if n.Desc != "" && !match.Suits(r, s) || !match.Asserts(r, n.Value) {
		return U
	}
	by := func(s api.Syntax, values ...string) api.Truth {
		return oneTrue(values, func(value string) api.Truth { return match.ByRule(r, s, value, n.Value) })
	}
	if n.Desc != "" {
		return slowOr(by(s, entry.Values(e, n.Desc)...), onName(n, e, func(pair api.AVA) api.Truth {
			if !attr.Covers(n.Desc, pair.Type) {
				return F
			}
			return by(s, pair.Value)
		}))
	}
	out := onName(n, e, func(pair api.AVA) api.Truth { return by(attr.Syntax(pair.Type), pair.Value) })
	for _, a := range e.Attrs {
		out = slowOr(out, by(attr.Syntax(a.Canon), a.Values...))
	}
	return out
}

// onName asks the pairs of the entry's name, if the item asks for them.
func onName(n api.FilterNode, e api.Entry, asked func(pair api.AVA) api.Truth) api.Truth {
	out := F
	name, err := dn.Parse(e.Name)
	if err != nil || !n.DNAttrs {
		return F
	}
	for _, part := range name {
		for _, pair := range part {
			out = slowOr(out, asked(pair))
		}
	}
	return out
}

// slowValue takes a filter apart by the depths of its nodes.
func slowValue(f api.Filter, e api.Entry) api.Truth {
	if err, _ := filter.Check(f); err != api.OK {
		return U
	}
	return slowTree(f, e)
}

func slowTree(f api.Filter, e api.Entry) api.Truth {
	var kids []api.Truth
	for i := 1; i < len(f); i++ {
		if f[i].Depth != f[0].Depth+1 {
			continue
		}
		end := i + 1
		for end < len(f) && f[end].Depth > f[i].Depth {
			end++
		}
		kids = append(kids, slowTree(f[i:end], e))
	}
	switch f[0].Op {
	case api.And:
		return slowAnd(kids...)
	case api.Or:
		return slowOr(kids...)
	case api.Not:
		return slowNot(kids[0])
	}
	return slowItem(f[0], e)
}

// What is asked, and of what.

// sample is what a syntax has: a description of it; two values that are equal, one ahead of them and one behind, if it has an order; one that is not of it.
type sample struct {
	s           api.Syntax
	desc, canon string
	value, same string
	less, more  string
	none        string
	ordered     bool
	partial     bool
}

// samples are those of all syntaxes. (Of SynOctet is every value.)
func samples() []sample {
	return []sample{
		{api.SynText, "commonName", "cn", "Ann  Lee", " aNN lee", "ann", "anna", "\xff", true, true},
		{api.SynExact, "labeledURI", "labeleduri", "Ann  Lee", " Ann Lee ", "ANN LEE", "ann lee", "", true, true},
		{api.SynIA5, "rfc822Mailbox", "mail", "Ann@x", "ann@X ", "", "", "\xc3\xa9", false, true},
		{api.SynIA5Exact, "homeDirectory", "homedirectory", "/home/Ann", " /home/Ann", "", "", "\x80", false, true},
		{api.SynNumeric, "x121Address", "x121address", "12 34", "1 234", "1", "13", "1-2", true, true},
		{api.SynPhone, "fax", "facsimiletelephonenumber", "+1 55-X", "+155x", "", "", "1*2", false, true},
		{api.SynInteger, "UIDNUMBER", "uidnumber", "12", "12", "-7", "100", "012", true, false},
		{api.SynBoolean, "hasSubordinates", "hassubordinates", "TRUE", "TRUE", "", "", "true", false, false},
		{api.SynOctet, "2.5.4.35", "userpassword", "a\xffz", "a\xffz", "A", "b", "", true, true},
		{api.SynName, "member", "member", "cn=Bo, O=X", "CN=bo,o=x", "", "", "bo", false, false},
		{api.SynOID, "objectClass", "objectclass", "Person", "PERSON", "", "", "1a", false, false},
		{api.SynTime, "createTimestamp", "createtimestamp", "2024010112Z", "202401011300+01", "2023123123Z", "20240101120001Z", "2024", true, false},
		{api.SynList, "postalAddress", "postaladdress", "1 High  St$Oslo", "1 high st$OSLO", "", "", "a$$b", false, false},
		{api.SynBits, "x500UniqueIdentifier", "x500uniqueidentifier", "'01'B", "'01'B", "", "", "01", false, false},
	}
}

// oddDescs are no description; strangers are descriptions of types that aren't known.
var (
	oddDescs  = []string{"", "c n", " cn", "cn ", "cn;", "cn;;x", ";x", "1", "-cn", "cn_", "*", "+", "\xff", "cn\x00", "2.5.4.", "02.5"}
	strangers = []string{"x-odd", "X-Odd;a", "1.1", "1.2.3.4", "nope", "dn"}
)

// someDescs are descriptions of all kinds.
func someDescs() []string {
	out := []string{"cn", "CN", "commonName", "2.5.4.3", "name", "NAME", "2.5.4.41", "sn", "ou", "c-ou", "cn;lang-de", "Name;LANG-de", "cn;lang-de;x", "distinguishedName", "registeredAddress", "gidNumber", "l", "mobile"}
	for _, one := range samples() {
		out = append(out, one.desc)
	}
	return append(append(out, oddDescs[:4]...), strangers[:2]...)
}

// someValues are values of all syntaxes, and of none.
func someValues() []string {
	out := []string{"Ann", "ann", "Bo", "7", "8", "-3", "sales", "x", " ", "a*", "*n*", "*\\2A*", "o=x", "", "9223372036854775808", "lee", "\xff"}
	for _, one := range samples() {
		out = append(out, one.value, one.same, one.less, one.more, one.none)
	}
	slices.Sort(out)
	return slices.Compact(out)
}

// full has a value of each syntax, and one that is not of it.
func full() api.Entry {
	e := named(`cn=Ann+uidNumber=7+mail=a@x+x-odd=1,ou=Sales+l=Oslo,member=cn\=Bo\,o\=x+createTimestamp=2024010112Z,gidNumber=x,c-ou=  Deep  End,o=x`)
	for _, one := range samples() {
		e.Attrs = append(e.Attrs, at(one.canon, one.none, one.value))
	}
	return e
}

// someEntries are entries of all kinds, such as no Make made too.
func someEntries() []api.Entry {
	spoilt := named("cn=Ann,ou")
	for _, one := range samples() {
		spoilt.Attrs = append(spoilt.Attrs, at(one.canon, one.none))
	}
	return []api.Entry{
		ann(),
		full(),
		spoilt,
		{},
		named("ou=Sales", at("cn"), at("sn"), at("uidnumber"), at("")),
		named("CN=ann+SN=Lee+2.5.4.11=Sales", at("cn;lang-de", "Ann"), at("cn;lang-de;x", "Bo"), at("cn")),
		named("uid=7,uidNumber=8,cn=", at("CN", "Ann"), at("commonName", "Bo"), at("2.5.4.4", "Lee"), at("cn", "Ann", "Ann"), at("cn", "7")),
		named("\xff", at("c n", "Ann"), at("", "Ann"), at("cn;", "Ann"), at("nope", "Ann"), at("x-odd", "1")),
		named("x-odd=1,nope=Ann,1.2.3=Ann", at("name", "Ann"), at("distinguishedname", "o=x", "cn=a,o=x"), at("gidnumber", "8", "-3")),
	}
}

func pick[E any](r *rand.Rand, from []E) E {
	return from[r.Intn(len(from))]
}

// maker makes items, filters and entries by chance.
type maker struct {
	*rand.Rand
	descs, values []string
	entries       []api.Entry
}

func newMaker(seed int64) *maker {
	return &maker{rand.New(rand.NewSource(seed)), someDescs(), someValues(), someEntries()}
}

// item is one that filter.Check takes.
func (m *maker) item() api.FilterNode {
	desc, value := pick(m.Rand, m.descs), pick(m.Rand, m.values)
	if desc == "\xff" {
		desc = "cn"
	}
	switch o := api.FilterOp(3 + m.Intn(7)); o {
	case api.Present:
		return has(1, desc)
	case api.Substrings:
		n := sub(1, desc, pick(m.Rand, m.values), nil, "")
		for range m.Intn(3) {
			n.Parts.Any = append(n.Parts.Any, pick(m.Rand, []string{"n", "a", " ", "1", "N  L"}))
		}
		if n.Parts.Initial == "" || m.Intn(3) == 0 {
			n.Parts.Initial, n.Parts.Final = "", pick(m.Rand, []string{"n", "Lee ", "2"})
		}
		return n
	case api.Extensible:
		if desc == "" {
			desc = "cn"
		}
		n := ext(1, desc, pick(m.Rand, []string{"", "caseIgnoreMatch", "integerMatch", "wordMatch", "2.5.13.4", "nope"}), value, m.Intn(2) == 0)
		if n.Rule != "" && m.Intn(2) == 0 {
			n.Desc = ""
		}
		return n
	default:
		return with(1, o, desc, value)
	}
}

// filter is one of at most this depth.
func (m *maker) filter(depth int) api.Filter {
	if depth == 1 || m.Intn(4) == 0 {
		return list(m.item())
	}
	if m.Intn(4) == 0 {
		return under(api.Not, m.filter(depth-1))
	}
	var kids []api.Filter
	for range m.Intn(4) {
		kids = append(kids, m.filter(depth-1))
	}
	return under(api.FilterOp(m.Intn(2)), kids...)
}

// entry is one of the entries, or one of some of their attributes and names.
func (m *maker) entry() api.Entry {
	e := pick(m.Rand, m.entries)
	if m.Intn(3) == 0 {
		return e
	}
	e = named(pick(m.Rand, m.entries).Name)
	for range m.Intn(6) {
		if from := pick(m.Rand, m.entries); len(from.Attrs) > 0 {
			e.Attrs = append(e.Attrs, pick(m.Rand, from.Attrs))
		}
	}
	return e
}
