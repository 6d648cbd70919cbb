package plan

import (
	"fmt"
	"math/rand"
	"slices"
	"strings"
	"testing"

	"roster/api"
	"roster/attr"
	"roster/filter"
	"roster/index"
	"roster/match"
)

// knot is a step without a Depth, with its kids: the slow answers go by it.
type knot struct {
	step api.Step
	kids []knot
}

func tie(o api.PlanOp, kids ...knot) knot { return knot{api.Step{Op: o}, kids} }

func tieText(o api.PlanOp, desc, text string) knot {
	return knot{step: api.Step{Op: o, Desc: desc, Text: text}}
}

func tieGrams(desc string, grams ...string) knot {
	return knot{step: api.Step{Op: api.PlanGrams, Desc: desc, Grams: grams}}
}

// list is the plan of a knot; knotOf the knot of a plan.
func (k knot) list() []api.Step {
	return k.listAt(1)
}

func (k knot) listAt(depth int) []api.Step {
	s := k.step
	s.Depth = depth
	out := []api.Step{s}
	for _, kid := range k.kids {
		out = append(out, kid.listAt(depth+1)...)
	}
	return out
}

func knotOf(steps []api.Step) knot {
	k := knot{step: steps[0]}
	k.step.Depth = 0
	for place := 1; place < len(steps) && steps[place].Depth > steps[0].Depth; place++ {
		if steps[place].Depth == steps[0].Depth+1 {
			k.kids = append(k.kids, knotOf(steps[place:]))
		}
	}
	return k
}

// Filters, short.

func nodes(ns ...api.FilterNode) api.Filter { return ns }

func with(o api.FilterOp, desc, value string) api.FilterNode {
	return api.FilterNode{Depth: 1, Op: o, Desc: desc, Value: value}
}

func sub(desc, initial string, between []string, final string) api.FilterNode {
	return api.FilterNode{Depth: 1, Op: api.Substrings, Desc: desc, Parts: api.Pattern{Initial: initial, Any: between, Final: final}}
}

func ext(desc, rule, value string, names bool) api.FilterNode {
	return api.FilterNode{Depth: 1, Op: api.Extensible, Desc: desc, Rule: rule, Value: value, DNAttrs: names}
}

// under is a node over filters.
func under(o api.FilterOp, fs ...api.Filter) api.Filter {
	out := nodes(with(o, "", ""))
	for _, f := range fs {
		for _, n := range f {
			n.Depth++
			out = append(out, n)
		}
	}
	return out
}

// chain is so many nodes of one Op, each alone in the one ahead of it, and a filter beneath them.
func chain(o api.FilterOp, many int, f api.Filter) api.Filter {
	for range many {
		f = under(o, f)
	}
	return f
}

func parsed(t *testing.T, s string) api.Filter {
	t.Helper()
	f, err, place := filter.Parse(s)
	if err != api.OK {
		t.Fatalf("%s is no filter's text: %d, %d", s, err, place)
	}
	return f
}

// Entries, short.

func at(canon string, values ...string) api.Attr {
	return api.Attr{Desc: "desc of " + canon, Canon: canon, Values: values}
}

func entryOf(attrs ...api.Attr) api.Entry {
	return api.Entry{Attrs: attrs}
}

// three are the chapter's entries.
func three() []api.Entry {
	return []api.Entry{entryOf(at("cn", "Ada")), entryOf(at("cn", "Bea"), at("sn", "X")), entryOf(at("sn", "Y"))}
}

// listed is any list as a text.
func listed(steps []api.Step) string {
	var out strings.Builder
	for _, s := range steps {
		fmt.Fprintf(&out, "{%d %d %q %q %q}", s.Depth, s.Op, s.Desc, s.Text, s.Grams)
	}
	return out.String()
}

func toldFilter(f api.Filter) string {
	var out strings.Builder
	for _, n := range f {
		fmt.Fprintf(&out, "{%d %d %q %q %q %q %v}", n.Depth, n.Op, n.Desc, n.Value, n.Parts, n.Rule, n.DNAttrs)
	}
	return out.String()
}

// sameList tells whether two lists are the same field by field.
func sameList(a, b []api.Step) bool {
	return slices.EqualFunc(a, b, func(s, u api.Step) bool {
		return s.Depth == u.Depth && s.Op == u.Op && s.Desc == u.Desc && s.Text == u.Text && slices.Equal(s.Grams, u.Grams)
	})
}

func sameKnot(a, b knot) bool {
	return sameList(a.list(), b.list())
}

// The text of a plan, read. What is read here is made by the tests: any fault is theirs.

func planOf(text string) []api.Step {
	k, rest := readKnot(text)
	if rest != "" {
		panic("behind a plan's text: " + rest)
	}
	return k.list()
}

var opWords = []string{"all", "none", "value", "has", "grams", "meet", "join", "rest", "from", "upto"}

func readKnot(text string) (knot, string) {
	end := 0
	for end < len(text) && 'a' <= text[end] && text[end] <= 'z' {
		end++
	}
	number := slices.Index(opWords, text[:end])
	if number < 0 {
		panic("no plan's text: " + text)
	}
	k, rest := tie(api.PlanOp(number)), text[end:]
	if k.step.Op == api.PlanAll || k.step.Op == api.PlanNone {
		return k, rest
	}
	if slices.Contains([]api.PlanOp{api.PlanMeet, api.PlanJoin, api.PlanRest}, k.step.Op) {
		return readKids(k, rest)
	}
	return readFields(k, rest)
}

func readKids(k knot, rest string) (knot, string) {
	if strings.HasPrefix(rest, "()") {
		return k, rest[2:]
	}
	for rest[0] != ')' {
		var kid knot
		kid, rest = readKnot(rest[1:]) // behind "(" or ","
		k.kids = append(k.kids, kid)
	}
	return k, rest[1:]
}

func readFields(k knot, rest string) (knot, string) {
	var fields []string
	for rest[0] != ')' {
		var field []byte
		for rest = rest[1:]; rest[0] != ',' && rest[0] != ')'; rest = rest[1:] {
			b := rest[0]
			if b == '\\' {
				fmt.Sscanf(rest[1:3], "%02x", &b)
				rest = rest[2:]
			}
			field = append(field, b)
		}
		fields = append(fields, string(field))
	}
	k.step.Desc = fields[0]
	switch {
	case k.step.Op == api.PlanGrams:
		k.step.Grams = fields[1:]
	case len(fields) > 1:
		k.step.Text = fields[1]
	}
	return k, rest[1:]
}

// The chapter's words, told a second time.

func slowIsPlan(steps []api.Step) bool {
	if len(steps) == 0 {
		return false
	}
	holders := []api.PlanOp{api.PlanMeet, api.PlanJoin, api.PlanRest}
	described := []api.PlanOp{api.PlanValue, api.PlanHas, api.PlanGrams, api.PlanFrom, api.PlanUpTo}
	texted := []api.PlanOp{api.PlanValue, api.PlanFrom, api.PlanUpTo}
	for i, s := range steps {
		switch {
		case i == 0 && s.Depth != 1, i > 0 && s.Depth < 2, s.Depth > 128:
			return false
		case i > 0 && s.Depth > steps[i-1].Depth+1:
			return false
		case i > 0 && s.Depth == steps[i-1].Depth+1 && !slices.Contains(holders, steps[i-1].Op):
			return false
		case s.Op < 0 || s.Op > 9:
			return false
		case s.Desc != "" && !slices.Contains(described, s.Op), s.Text != "" && !slices.Contains(texted, s.Op):
			return false
		case s.Op == api.PlanGrams && len(s.Grams) == 0, s.Op != api.PlanGrams && len(s.Grams) != 0:
			return false
		}
	}
	for i, s := range steps {
		kids := 0
		for j := i + 1; j < len(steps) && steps[j].Depth > s.Depth; j++ {
			if steps[j].Depth == s.Depth+1 {
				kids++
			}
		}
		if s.Op == api.PlanRest && kids != 1 {
			return false
		}
	}
	return true
}

// slowItem asks the lines of the chapter's table one behind the other.
func slowItem(n api.FilterNode) (yes, no knot) {
	s := attr.Syntax(n.Desc)
	d, _, _ := attr.Canonical(n.Desc)
	v, of := match.Normal(s, n.Value)
	r, known := match.RuleOf(n.Rule)
	all, none := tie(api.PlanAll), tie(api.PlanNone)
	is := func(ops ...api.FilterOp) bool { return slices.Contains(ops, n.Op) }
	byValue := is(api.Equality, api.Approx) || is(api.Extensible) && n.Rule == ""
	sure := func(k knot) (knot, knot) { return k, tie(api.PlanRest, k) }
	if is(api.Extensible) && n.Rule != "" && !known {
		return none, none
	}
	if is(api.Extensible) && n.Desc == "" {
		return all, all
	}
	if s == api.SynNone {
		return none, none
	}
	if is(api.Extensible) && n.DNAttrs {
		return all, all
	}
	if is(api.Present) {
		return sure(tieText(api.PlanHas, d, ""))
	}
	if byValue && !of {
		return none, none
	}
	if byValue {
		return sure(tieText(api.PlanValue, d, v))
	}
	if is(api.AtLeast, api.AtMost) && (!match.Ordered(s) || !of) {
		return none, none
	}
	if is(api.AtLeast) {
		return sure(tieText(api.PlanFrom, d, v))
	}
	if is(api.AtMost) {
		return sure(tieText(api.PlanUpTo, d, v))
	}
	if is(api.Substrings) {
		return slowPieces(s, d, n.Parts)
	}
	if !match.Suits(r, s) || !match.Asserts(r, n.Value) {
		return none, none
	}
	if r == match.RuleFor(s) {
		return sure(tieText(api.PlanValue, d, v))
	}
	return tieText(api.PlanHas, d, ""), all
}

func slowPieces(s api.Syntax, d string, p api.Pattern) (yes, no knot) {
	normal, ok := match.Parts(s, p)
	if !ok {
		return tie(api.PlanNone), tie(api.PlanNone)
	}
	var grams []string
	for _, piece := range append([]string{normal.Initial, normal.Final}, normal.Any...) {
		for i := 3; i <= len(piece); i++ {
			grams = append(grams, piece[i-3:i])
		}
	}
	slices.Sort(grams)
	if grams = slices.Compact(grams); len(grams) == 0 {
		return tieText(api.PlanHas, d, ""), tie(api.PlanAll)
	}
	return tieGrams(d, grams...), tie(api.PlanAll)
}

// slowCompile takes a filter apart by the depths of its nodes.
func slowCompile(f api.Filter) (yes, no knot) {
	var ys, ns []knot
	for i := 1; i < len(f) && f[i].Depth > f[0].Depth; i++ {
		if f[i].Depth == f[0].Depth+1 {
			y, n := slowCompile(f[i:])
			ys, ns = append(ys, y), append(ns, n)
		}
	}
	switch f[0].Op {
	case api.And:
		return tie(api.PlanMeet, ys...), tie(api.PlanJoin, ns...)
	case api.Or:
		return tie(api.PlanJoin, ys...), tie(api.PlanMeet, ns...)
	case api.Not:
		return ns[0], ys[0]
	}
	return slowItem(f[0])
}

// slowTidy holds each two plans against each other.
func slowTidy(k knot) knot {
	all, none := tie(api.PlanAll), tie(api.PlanNone)
	var kids []knot
	for _, kid := range k.kids {
		kids = append(kids, slowTidy(kid))
	}
	switch k.step.Op {
	case api.PlanRest:
		switch {
		case sameKnot(kids[0], none):
			return all
		case sameKnot(kids[0], all):
			return none
		case kids[0].step.Op == api.PlanRest:
			return kids[0].kids[0]
		}
		return tie(api.PlanRest, kids[0])
	case api.PlanMeet:
		return slowGather(api.PlanMeet, kids, all, none)
	case api.PlanJoin:
		return slowGather(api.PlanJoin, kids, none, all)
	}
	return k
}

func slowGather(o api.PlanOp, kids []knot, dropped, final knot) knot {
	var parts, left []knot
	for _, kid := range kids {
		if kid.step.Op == o {
			parts = append(parts, kid.kids...)
		} else {
			parts = append(parts, kid)
		}
	}
	for i, part := range parts {
		if sameKnot(part, final) {
			return final
		}
		double := slices.ContainsFunc(parts[:i], func(other knot) bool { return sameKnot(other, part) })
		if !double && !sameKnot(part, dropped) {
			left = append(left, part)
		}
	}
	switch len(left) {
	case 0:
		return dropped
	case 1:
		return left[0]
	}
	return tie(o, left...)
}

func slowShow(k knot) string {
	hide := func(s string) string {
		var out string
		for _, b := range []byte(s) {
			if b < 0x21 || b > 0x7e || b == '(' || b == ')' || b == ',' || b == '\\' {
				out += fmt.Sprintf("\\%02x", b)
			} else {
				out += string(b)
			}
		}
		return out
	}
	var inner string
	for _, kid := range k.kids {
		inner += "," + slowShow(kid)
	}
	for _, gram := range k.step.Grams {
		inner += "," + hide(gram)
	}
	switch word := opWords[k.step.Op]; word {
	case "all", "none":
		return word
	case "value", "from", "upto":
		return word + "(" + hide(k.step.Desc) + "," + hide(k.step.Text) + ")"
	case "has", "grams":
		return word + "(" + hide(k.step.Desc) + inner + ")"
	default:
		return word + "(" + strings.TrimPrefix(inner, ",") + ")"
	}
}

// covered is what attr.Covers says, kept from call to call: the slow answers ask it over and over.
var covered = map[[2]string]bool{}

func covers(desc, canon string) bool {
	both := [2]string{desc, canon}
	if _, known := covered[both]; !known {
		covered[both] = attr.Covers(desc, canon)
	}
	return covered[both]
}

// slowGives tells whether a plan gives this entry: it looks at the entry, at no index.
func slowGives(k knot, e api.Entry) bool {
	switch s := k.step; s.Op {
	case api.PlanAll:
		return true
	case api.PlanValue:
		return ofOne(e, s.Desc, func(normal string) bool { return normal == s.Text })
	case api.PlanHas:
		return slices.ContainsFunc(e.Attrs, func(a api.Attr) bool { return len(a.Values) > 0 && covers(s.Desc, a.Canon) })
	case api.PlanGrams:
		return !slices.ContainsFunc(s.Grams, func(gram string) bool {
			return !ofOne(e, s.Desc, func(normal string) bool { return len(gram) == 3 && strings.Contains(normal, gram) })
		})
	case api.PlanMeet:
		return !slices.ContainsFunc(k.kids, func(kid knot) bool { return !slowGives(kid, e) })
	case api.PlanJoin:
		return slices.ContainsFunc(k.kids, func(kid knot) bool { return slowGives(kid, e) })
	case api.PlanRest:
		return !slowGives(k.kids[0], e)
	case api.PlanFrom, api.PlanUpTo:
		syntax := attr.Syntax(s.Desc)
		return match.Ordered(syntax) && ofOne(e, s.Desc, func(normal string) bool {
			order := match.Compare(syntax, normal, s.Text)
			return order == 0 || order == 1 && s.Op == api.PlanFrom || order == -1 && s.Op == api.PlanUpTo
		})
	}
	return false
}

// ofOne tells whether the normal form of one covered value fulfils what is asked.
func ofOne(e api.Entry, desc string, asked func(normal string) bool) bool {
	return slices.ContainsFunc(e.Attrs, func(a api.Attr) bool {
		return covers(desc, a.Canon) && slices.ContainsFunc(a.Values, func(value string) bool {
			normal, ok := match.Normal(attr.Syntax(a.Canon), value)
			return ok && asked(normal)
		})
	})
}

func slowRun(k knot, entries []api.Entry) []int {
	var out []int
	for number, e := range entries {
		if slowGives(k, e) {
			out = append(out, number)
		}
	}
	return out
}

// What is held.

func holdCompile(t *testing.T, f api.Filter) {
	t.Helper()
	yes, no, err := Compile(f)
	if want, _ := filter.Check(f); err != want {
		t.Fatalf("Compile(%s): error %d, want %d", toldFilter(f), err, want)
	}
	if err != api.OK {
		if yes != nil || no != nil {
			t.Fatalf("Compile(%s), refused = %s and %s", toldFilter(f), listed(yes), listed(no))
		}
		return
	}
	y, n := slowCompile(f)
	if !sameList(yes, y.list()) || !sameList(no, n.list()) {
		t.Fatalf("Compile(%s) = %s and %s, want %s and %s", toldFilter(f), listed(yes), listed(no), listed(y.list()), listed(n.list()))
	}
}

// holdSteps holds Tidy, Show and Run over an index of the entries.
func holdSteps(t *testing.T, steps []api.Step, x *index.Index, entries []api.Entry) {
	t.Helper()
	if !slowIsPlan(steps) {
		holdRefused(t, steps, x)
		return
	}
	k := knotOf(steps)
	if got, err := Tidy(steps); err != api.OK || !sameList(got, slowTidy(k).list()) {
		t.Fatalf("Tidy(%s) = %s, %d, want %s", slowShow(k), listed(got), err, slowShow(slowTidy(k)))
	}
	if got, err := Show(steps); err != api.OK || got != slowShow(k) {
		t.Fatalf("Show(%s) = %s, %d, want %s", listed(steps), got, err, slowShow(k))
	}
	if got, err := Run(x, steps); err != api.OK || !slices.Equal(got, slowRun(k, entries)) {
		t.Fatalf("Run(%s) = %d, %d, want %d", slowShow(k), got, err, slowRun(k, entries))
	}
}

func holdRefused(t *testing.T, steps []api.Step, x *index.Index) {
	t.Helper()
	if got, err := Tidy(steps); err != api.ErrArg || got != nil {
		t.Fatalf("Tidy(%s) = %s, %d", listed(steps), listed(got), err)
	}
	if got, err := Show(steps); err != api.ErrArg || got != "" {
		t.Fatalf("Show(%s) = %s, %d", listed(steps), got, err)
	}
	if got, err := Run(x, steps); err != api.ErrArg || got != nil {
		t.Fatalf("Run(%s) = %d, %d", listed(steps), got, err)
	}
}

// shown is the text of a plan that Show must take.
func shown(t *testing.T, steps []api.Step) string {
	t.Helper()
	s, err := Show(steps)
	if err != api.OK {
		t.Errorf("Show(%s): %d", listed(steps), err)
	}
	return s
}

// What is asked, and of what.

// sample is what a syntax has: a description of it; two values that are equal, one ahead of them and one behind, if it has an order; one that is not of it.
type sample struct {
	s           api.Syntax
	desc, canon string
	value, same string
	less, more  string
	none        string
	ordered     bool
	partial     bool
}

// samples are those of all syntaxes. (Of SynOctet is every value.)
func samples() []sample {
	return []sample{
		{api.SynText, "commonName", "cn", "Ann  Lee", " aNN lee", "ann", "anna", "\xff", true, true},
		{api.SynExact, "labeledURI", "labeleduri", "Ann  Lee", " Ann Lee ", "ANN LEE", "ann lee", "", true, true},
		{api.SynIA5, "rfc822Mailbox", "mail", "Ann@x", "ann@X ", "a", "b", "\xc3\xa9", false, true},
		{api.SynIA5Exact, "homeDirectory", "homedirectory", "/home/Ann", " /home/Ann", "/", "/home/ann", "\x80", false, true},
		{api.SynNumeric, "x121Address", "x121address", "12 34", "1 234", "1", "13", "1-2", true, true},
		{api.SynPhone, "fax", "facsimiletelephonenumber", "+1 55-X", "+155x", "+1", "1", "1*2", false, true},
		{api.SynInteger, "UIDNUMBER", "uidnumber", "12", "12", "-7", "100", "012", true, false},
		{api.SynBoolean, "hasSubordinates", "hassubordinates", "TRUE", "TRUE", "FALSE", "TRUE", "true", false, false},
		{api.SynOctet, "2.5.4.35", "userpassword", "a\xffz", "a\xffz", "A", "b", "", true, true},
		{api.SynName, "member", "member", "cn=Bo, O=X", "CN=bo,o=x", "", "o=y", "bo", false, false},
		{api.SynOID, "objectClass", "objectclass", "Person", "PERSON", "a", "z", "1a", false, false},
		{api.SynTime, "createTimestamp", "createtimestamp", "2024010112Z", "202401011300+01", "2023123123Z", "20240101120001Z", "2024", true, false},
		{api.SynList, "postalAddress", "postaladdress", "1 High  St$Oslo", "1 high st$OSLO", "1", "2", "a$$b", false, false},
		{api.SynBits, "x500UniqueIdentifier", "x500uniqueidentifier", "'01'B", "'01'B", "'0'B", "'1'B", "01", false, false},
	}
}

// oddDescs are no description; strangers are descriptions of types that aren't known.
var (
	oddDescs  = []string{"", "c n", " cn", "cn ", "cn;", "cn;;x", ";x", "1", "-cn", "cn_", "*", "+", "\xff", "cn\x00", "2.5.4.", "02.5"}
	strangers = []string{"x-odd", "X-Odd;a", "1.1", "1.2.3.4", "nope", "dn"}
)

// someDescs are descriptions of all kinds.
func someDescs() []string {
	out := []string{"cn", "CN", "commonName", "2.5.4.3", "name", "NAME", "2.5.4.41", "sn", "ou", "c-ou", "cn;lang-de", "Name;LANG-de", "cn;X;lang-de;x", "distinguishedName", "registeredAddress", "gidNumber", "l", "mobile"}
	for _, one := range samples() {
		out = append(out, one.desc)
	}
	return append(append(out, oddDescs[:4]...), strangers[:2]...)
}

// someValues are values of all syntaxes, and of none.
func someValues() []string {
	out := []string{"Ann", "ann", "Bo", "7", "8", "-3", "sales", "x", " ", "a*", "*n*", "*\\2A*", "o=x", "", "9223372036854775808", "lee", "ann lee", "\xff", "Annabel  (Lee), \\x"}
	for _, one := range samples() {
		out = append(out, one.value, one.same, one.less, one.more, one.none)
	}
	slices.Sort(out)
	return slices.Compact(out)
}

// someEntries are entries of all kinds, such as no Make made too.
func someEntries() []api.Entry {
	full, spoilt, lesser := entryOf(), entryOf(), entryOf()
	full.Name = `cn=Ann+uidNumber=7,ou=Sales,o=x`
	for _, one := range samples() {
		full.Attrs = append(full.Attrs, at(one.canon, one.none, one.value))
		spoilt.Attrs = append(spoilt.Attrs, at(one.canon, one.none))
		lesser.Attrs = append(lesser.Attrs, at(one.canon, one.less))
	}
	return []api.Entry{
		full,
		spoilt,
		lesser,
		{},
		{Name: "cn=Ann,ou=Sales,o=x", Attrs: []api.Attr{at("cn", "Ann"), at("objectclass", "person"), at("uidnumber", "7", "x"), at("mail"), at("x-odd", "1")}},
		entryOf(at("cn"), at("sn"), at("uidnumber"), at("")),
		entryOf(at("cn;lang-de", "Ann"), at("cn;lang-de;x", "Bo"), at("cn")),
		entryOf(at("CN", "Ann"), at("commonName", "Bo"), at("2.5.4.4", "Lee"), at("cn", "Ann", "Ann"), at("cn", "7")),
		entryOf(at("c n", "Ann"), at("", "Ann"), at("cn;", "Ann"), at("nope", "Ann"), at("x-odd", "1")),
		entryOf(at("name", "Ann"), at("distinguishedname", "o=x", "cn=a,o=x"), at("gidnumber", "8", "-3"), at("uidnumber", "12", "100")),
		entryOf(at("sn", "annabel (lee), \\x"), at("uidnumber", "-8"), at("createtimestamp", "20240101120000.5Z")),
	}
}

func pick[E any](r *rand.Rand, from []E) E {
	return from[r.Intn(len(from))]
}

// maker makes items, filters, plans and entries by chance.
type maker struct {
	*rand.Rand
	descs, values []string
	entries       []api.Entry
}

func newMaker(seed int64) *maker {
	return &maker{rand.New(rand.NewSource(seed)), someDescs(), someValues(), someEntries()}
}

// item is one that filter.Check takes.
func (m *maker) item() api.FilterNode {
	desc, value := pick(m.Rand, m.descs), pick(m.Rand, m.values)
	switch o := api.FilterOp(3 + m.Intn(7)); o {
	case api.Present:
		return with(o, desc, "")
	case api.Substrings:
		n := sub(desc, pick(m.Rand, m.values), nil, "")
		for range m.Intn(3) {
			n.Parts.Any = append(n.Parts.Any, pick(m.Rand, []string{"n", "a", " ", "1", "N  L", "annabel", "Annan"}))
		}
		if n.Parts.Initial == "" || m.Intn(3) == 0 {
			n.Parts.Initial, n.Parts.Final = "", pick(m.Rand, []string{"n", "Lee ", "2", " lee", "1234"})
		}
		return n
	case api.Extensible:
		if desc == "" {
			desc = "cn"
		}
		n := ext(desc, pick(m.Rand, []string{"", "", "caseIgnoreMatch", "CASEexactMATCH", "integerMatch", "wordMatch", "2.5.13.4", "2.5.13.27", "nope"}), value, m.Intn(4) == 0)
		if n.Rule != "" && m.Intn(4) == 0 {
			n.Desc = ""
		}
		return n
	default:
		return with(o, desc, value)
	}
}

// filter is one of at most this depth.
func (m *maker) filter(depth int) api.Filter {
	return m.filterOf(depth, m.item)
}

func (m *maker) filterOf(depth int, item func() api.FilterNode) api.Filter {
	if depth == 1 || m.Intn(4) == 0 {
		return nodes(item())
	}
	if m.Intn(4) == 0 {
		return under(api.Not, m.filterOf(depth-1, item))
	}
	var kids []api.Filter
	for range m.Intn(4) {
		kids = append(kids, m.filterOf(depth-1, item))
	}
	return under(api.FilterOp(m.Intn(2)), kids...)
}

// plan is one of at most this depth, out of few leaves: so some stand there twice.
func (m *maker) plan(depth int) knot {
	leaves := []knot{tie(api.PlanAll), tie(api.PlanNone), tieText(api.PlanHas, "cn", ""), tieText(api.PlanHas, "mail", ""), tieText(api.PlanValue, "cn", "ann"), tieText(api.PlanFrom, "uidNumber", "7"), tieText(api.PlanUpTo, "name", "ann"), tieGrams("cn", "ann"), tieGrams("cn", "ann", "lee"), tieText(api.PlanValue, "mail", "")}
	return m.planOf(depth, func() knot { return pick(m.Rand, leaves) })
}

// oddPlan is one with leaves of any kind.
func (m *maker) oddPlan(depth int) knot {
	return m.planOf(depth, m.leaf)
}

func (m *maker) leaf() knot {
	desc, text := pick(m.Rand, m.descs), pick(m.Rand, m.values)
	if m.Intn(2) == 0 {
		if normal, ok := match.Normal(attr.Syntax(desc), text); ok {
			text = normal
		}
	}
	switch o := pick(m.Rand, []api.PlanOp{0, 1, 2, 3, 4, 8, 9}); o {
	case api.PlanAll, api.PlanNone:
		return tie(o)
	case api.PlanHas:
		return tieText(o, desc, "")
	case api.PlanGrams:
		k := tieGrams(desc, pick(m.Rand, []string{"ann", "n l", "lee", "", "an", "ann ", "Ann", "123"}))
		for range m.Intn(3) {
			k.step.Grams = append(k.step.Grams, pick(m.Rand, []string{"ann", "nn ", "n l", "(le", "ee)"}))
		}
		return k
	default:
		return tieText(o, desc, text)
	}
}

func (m *maker) planOf(depth int, leaf func() knot) knot {
	if depth == 1 || m.Intn(5) == 0 {
		return leaf()
	}
	if m.Intn(4) == 0 {
		return tie(api.PlanRest, m.planOf(depth-1, leaf))
	}
	k := tie(api.PlanMeet + api.PlanOp(m.Intn(2)))
	for range m.Intn(5) {
		k.kids = append(k.kids, m.planOf(depth-1, leaf))
	}
	return k
}

// entry is one of the entries, or one of some of their attributes and names.
func (m *maker) entry() api.Entry {
	e := pick(m.Rand, m.entries)
	if m.Intn(3) == 0 {
		return e
	}
	e = api.Entry{Name: pick(m.Rand, m.entries).Name}
	for range m.Intn(6) {
		if from := pick(m.Rand, m.entries); len(from.Attrs) > 0 {
			e.Attrs = append(e.Attrs, pick(m.Rand, from.Attrs))
		}
	}
	return e
}

func (m *maker) someOf() []api.Entry {
	var out []api.Entry
	for range m.Intn(12) {
		out = append(out, m.entry())
	}
	return out
}
