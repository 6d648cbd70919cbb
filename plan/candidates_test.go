package plan

import (
	"slices"
	"testing"

	"roster/api"
	"roster/eval"
	"roster/index"
)

// P15.4: what T of a filter gives.
func TestCandidatesExamples(t *testing.T) {
	x := index.Build(three())
	for text, want := range map[string][]int{
		"(cn=ADA)": {0}, "(!(cn=ada))": {1, 2}, "(&)": {0, 1, 2}, "(|)": nil, "(!(&))": nil, "(!(|))": {0, 1, 2},
		"(cn=be*)": {0, 1}, "(cn=*bea*)": {1}, "(!(cn=*bea*))": {0, 1, 2}, "(foo=x)": nil, "(!(foo=x))": nil,
		"(cn>=b)": {1}, "(cn<=b)": {0}, "(name>=x)": {1, 2}, "(mail>=a)": nil, "(!(name>=x))": {0},
		"(cn:caseExactMatch:=ada)": {0, 1}, "(:caseExactMatch:=ada)": {0, 1, 2}, "(cn:dn:=x)": {0, 1, 2}, "(cn:=Ada)": {0}, "(:nosuch:=x)": nil,
		"(|(cn=bea)(!(sn=*)))": {0, 1}, "(&(cn=*)(sn=*))": {1}, "(&(cn=*)(foo=x))": nil, "(|(cn=*)(foo=x))": {0, 1},
	} {
		if got := Candidates(x, parsed(t, text)); !slices.Equal(got, want) {
			t.Errorf("Candidates(%s) = %d, want %d", text, got, want)
		}
		if got := Candidates(index.Build(nil), parsed(t, text)); len(got) != 0 {
			t.Errorf("Candidates(%s) of no entries = %d", text, got)
		}
	}
}

// P15.4: of what is no filter there are none.
func TestCandidatesOfNoFilter(t *testing.T) {
	x := index.Build(three())
	cn := with(api.Present, "cn", "")
	for _, f := range []api.Filter{
		nil, {}, nodes(cn, cn), nodes(with(api.Not, "", "")), nodes(with(10, "", "")), nodes(api.FilterNode{Depth: 2, Op: api.And}), nodes(with(api.And, "cn", "")), nodes(with(api.Present, "\xff", "")),
		under(api.Not, nodes(with(api.Or, "", "")), nodes(cn)), chain(api.And, api.MaxFilter, nodes(cn)), under(api.Or, nodes(cn), nodes(sub("cn", "", nil, ""))),
	} {
		if got := Candidates(x, f); got != nil {
			t.Errorf("Candidates(%s) = %d", toldFilter(f), got)
		}
	}
}

// sought are the entries on which a filter has this value.
func sought(f api.Filter, entries []api.Entry, value api.Truth) []int {
	var out []int
	for number, got := range eval.Run(f, entries) {
		if got == value {
			out = append(out, number)
		}
	}
	return out
}

// exactOnly tells whether a filter has neither Substrings nor Extensible.
func exactOnly(f api.Filter) bool {
	return !slices.ContainsFunc(f, func(n api.FilterNode) bool { return n.Op == api.Substrings || n.Op == api.Extensible })
}

// holdAgainst holds the plans of a filter against its values on the entries.
func holdAgainst(t *testing.T, f api.Filter, x *index.Index, entries []api.Entry) {
	t.Helper()
	yes, no, err := Compile(f)
	if err != api.OK {
		t.Fatalf("Compile(%s): %d", toldFilter(f), err)
	}
	mayBe, _ := Run(x, yes)
	mayNot, _ := Run(x, no)
	if got := Candidates(x, f); !slices.Equal(got, mayBe) {
		t.Fatalf("Candidates(%s) = %d, want %d", toldFilter(f), got, mayBe)
	}
	for _, c := range []struct {
		given []int
		value api.Truth
	}{{mayBe, api.True}, {mayNot, api.False}} {
		want := sought(f, entries, c.value)
		if exactOnly(f) && !slices.Equal(c.given, want) {
			t.Fatalf("%s is %d on %d, given are %d", toldFilter(f), c.value, want, c.given)
		}
		for _, number := range want {
			if !slices.Contains(c.given, number) {
				t.Fatalf("%s is %d on %d, given are %d", toldFilter(f), c.value, want, c.given)
			}
		}
	}
}

// P15.3, P15.4, and what follows: every entry on which a filter is TRUE is in what T gives, every one on which it is FALSE in what F gives; those alone, if it has neither Substrings nor Extensible.
func TestGivenAgainstValues(t *testing.T) {
	m := newMaker(156)
	exact := func() api.FilterNode {
		for {
			if n := m.item(); exactOnly(nodes(n)) {
				return n
			}
		}
	}
	for range 150 {
		entries := m.someOf()
		x := index.Build(entries)
		for range 20 {
			holdAgainst(t, m.filter(1+m.Intn(5)), x, entries)
			holdAgainst(t, m.filterOf(1+m.Intn(5), exact), x, entries)
		}
	}
}

// P15.3, P15.4, and what follows: the same of each item by itself, on entries of all kinds: every description with values of all kinds, every rule.
func TestItemsAgainstValues(t *testing.T) {
	entries := someEntries()
	x := index.Build(entries)
	for _, desc := range someDescs() {
		holdAgainst(t, nodes(with(api.Present, desc, "")), x, entries)
		for _, value := range []string{"Ann", "annabel", "Bo", "7", "-3", "12 34", "o=x", " ", "\xff", "2024010112Z", "n  l"} {
			for _, o := range []api.FilterOp{api.Equality, api.Approx, api.AtLeast, api.AtMost} {
				holdAgainst(t, nodes(with(o, desc, value)), x, entries)
			}
			holdAgainst(t, nodes(sub(desc, value, nil, "")), x, entries)
			holdAgainst(t, nodes(sub(desc, "", []string{value}, "")), x, entries)
			holdAgainst(t, nodes(sub(desc, "", nil, value)), x, entries)
		}
	}
	for _, one := range samples() {
		for _, rule := range ruleNames {
			for _, value := range []string{one.value, one.same, one.more, one.none, "*a*", "7"} {
				holdAgainst(t, nodes(ext(one.desc, rule, value, false)), x, entries)
				holdAgainst(t, nodes(ext(one.desc, rule, value, true)), x, entries)
				if rule != "" {
					holdAgainst(t, nodes(ext("", rule, value, true)), x, entries)
				}
			}
		}
	}
}

// P15.3, P15.4, and what follows: the same of all small filters.
func TestSmallFiltersAgainstValues(t *testing.T) {
	entries := three()
	x := index.Build(entries)
	for _, f := range grown(4, nodes(with(api.Present, "cn", "")), nodes(sub("cn", "", []string{"ea"}, "")), nodes(with(api.Equality, "foo", "x")), nodes(with(api.AtLeast, "name", "bea"))) {
		holdAgainst(t, f, x, entries)
	}
}
