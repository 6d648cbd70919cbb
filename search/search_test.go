package search

import (
	"testing"

	"roster/api"
	"roster/entry"
)

func found(name string, attrs ...api.Attr) api.Found {
	return api.Found{Name: name, Attributes: attrs}
}

func sent(desc string, values ...string) api.Attr {
	return api.Attr{Desc: desc, Values: values}
}

// P16.4, P16.5: the chapter's examples of what is told.
func TestToldExamples(t *testing.T) {
	s := chapterStore(t)
	q := api.Search{Base: "ou=a,o=x", Scope: api.WholeSubtree, Filter: parsed(t, "(sn=*)"), Attributes: []string{"sn"}}
	both := []api.Found{found("cn=1,ou=a,o=x", sent("sn", "Ada")), found("cn=2,ou=a,o=x", sent("sn", "Bob"))}
	holdFound(t, s, q, both, api.Result{})
	q.SizeLimit = 1
	holdFound(t, s, q, both[:1], api.Result{Code: api.SizeLimitExceeded})
	q.SizeLimit = 2
	holdFound(t, s, q, both, api.Result{})
	q.SizeLimit = -1
	holdFound(t, s, q, both, api.Result{})
	q.TypesOnly = true
	types := []api.Found{found("cn=1,ou=a,o=x", sent("sn")), found("cn=2,ou=a,o=x", sent("sn"))}
	holdFound(t, s, q, types, api.Result{})
	q.SizeLimit = 1
	holdFound(t, s, q, types[:1], api.Result{Code: api.SizeLimitExceeded})
	holdFound(t, s, api.Search{Base: "o=x", Scope: 7, Filter: every()}, nil, api.Result{})
	holdFound(t, s, api.Search{Base: "o=x", Scope: api.WholeSubtree}, nil, api.Result{})
	for _, text := range []string{"(&)", "(|)", "(foo=x)", "(cn=*)"} {
		holdFound(t, s, api.Search{Base: "cn=9,o=x", Filter: parsed(t, text)}, nil, api.Result{Code: api.NoSuchObject, Matched: "o=x"})
	}
}

// P16.4, P16.5: a base that is refused, with Base's result, whatever else is asked.
func TestRefusedBases(t *testing.T) {
	s := chapterStore(t)
	filters := append(noFilters(), every(), parsed(t, "(cn=1)"))
	for base, result := range map[string]api.Result{
		"x": {Code: 34}, "cn=1,ou=a,o=x,": {Code: 34}, "": {Code: 32}, "o=y": {Code: 32}, "cn=1,o=y": {Code: 32}, "cn=1,o=x": {Code: 32, Matched: "o=x"}, "cn=1,cn=1,OU=A,o=x": {Code: 32, Matched: "cn=1,ou=a,o=x"},
	} {
		for _, scope := range []api.Scope{0, 1, 2, 3, -1} {
			for _, f := range filters {
				for _, limit := range []int{-1, 0, 1} {
					q := api.Search{Base: base, Scope: scope, Filter: f, SizeLimit: limit, Attributes: []string{"*"}}
					holdMatches(t, s, q, nil)
					holdFound(t, s, q, nil, result)
				}
			}
		}
	}
}

// P16.4, P16.5: limits below 0, 0, 1, one fewer than are meant, as many, one more, and great ones; of many that are meant, one, and none.
func TestSizeLimits(t *testing.T) {
	s := chapterStore(t)
	names := chapterNames()
	for text, numbers := range map[string][]int{"(&)": {0, 1, 2, 3, 4, 5}, "(!(mail=*))": {0, 1, 3, 4}, "(mail=*)": {2, 5}, "(sn=bob)": {3}, "(sn=zoe)": nil, "(foo=*)": nil} {
		var all []api.Found
		for _, n := range numbers {
			all = append(all, found(names[n]))
		}
		for _, limit := range []int{-1 << 63, -7, -1, 0, 1, 2, 3, 4, 5, 6, 7, 1000, api.MaxID, api.MaxID + 1, 1<<63 - 1} {
			q := api.Search{Base: "o=x", Scope: api.WholeSubtree, Filter: parsed(t, text), SizeLimit: limit, Attributes: []string{"1.1"}}
			want, result := all, api.Result{}
			if limit > 0 && limit < len(all) {
				want, result.Code = all[:limit], api.SizeLimitExceeded
			}
			holdFound(t, s, q, want, result)
		}
	}
}

// P16.4, P16.5: the limit counts what is meant, not what is in scope or looked at ahead of it.
func TestLimitCountsWhatIsMeant(t *testing.T) {
	s := chapterStore(t)
	q := api.Search{Base: "o=x", Scope: api.WholeSubtree, Filter: parsed(t, "(sn=*ve)"), SizeLimit: 1}
	holdFound(t, s, q, []api.Found{found("cn=1,ou=b,o=x", sent("cn", "1"), sent("sn", "Eve"), sent("mail", "eve@x"))}, api.Result{})
	q = api.Search{Base: "ou=b,o=x", Scope: api.WholeSubtree, Filter: parsed(t, "(cn=1)"), SizeLimit: 1, TypesOnly: true}
	holdFound(t, s, q, []api.Found{found("cn=1,ou=b,o=x", sent("cn"), sent("sn"), sent("mail"))}, api.Result{})
	q = api.Search{Base: "o=x", Scope: api.SingleLevel, Filter: every(), SizeLimit: 1, Attributes: []string{"ou"}}
	holdFound(t, s, q, []api.Found{found("ou=a,o=x", sent("ou", "a"))}, api.Result{Code: 4})
	q = api.Search{Base: "o=x", Scope: api.BaseObject, Filter: every(), SizeLimit: 1, Attributes: []string{"o"}}
	holdFound(t, s, q, []api.Found{found("o=x", sent("o", "x"))}, api.Result{})
}

// P16.4, P16.5: TimeLimit and Deref of any number make no difference.
func TestWithoutEffect(t *testing.T) {
	s := chapterStore(t)
	q := api.Search{Base: "o=x", Scope: api.SingleLevel, Filter: every(), Attributes: []string{"ou"}}
	want := []api.Found{found("ou=a,o=x", sent("ou", "a")), found("ou=b,o=x", sent("ou", "b"))}
	for _, number := range []int{-1 << 63, -1, 0, 1, 2, 3, 4, api.MaxID, 1<<63 - 1} {
		q.TimeLimit, q.Deref = number, 0
		holdFound(t, s, q, want, api.Result{})
		q.TimeLimit, q.Deref = 0, number
		holdFound(t, s, q, want, api.Result{})
		q.TimeLimit, q.Deref = number, number
		holdFound(t, s, q, want, api.Result{})
	}
}

// shown is a snapshot with attributes of all kinds: the directory's own, options, types that aren't known, values that aren't of their syntax, values twice, and some in the name alone.
const shown = "version: 1\n\n" +
	"dn: O = X\nobjectClass: organization\nCreateTimestamp: 2024010112Z\n\n" +
	"dn: CN=Ann\\20Lee+uid=a, o=x\nCommonName: ann  lee\ncn;Lang-DE: Anna\nCN: Ann\nX-Odd: 1\nx-odd: 1\nuidNumber: seven\nmodifiersName: o=x\nuserPassword:: /wA=\nmail:\n"

// P16.4, P16.5: attributes as entry.Select takes them.
func TestAttributes(t *testing.T) {
	s := storeOf(t, entriesIn(t, shown))
	q := api.Search{Base: "o=x", Scope: api.SingleLevel, Filter: every()}
	name := "CN=Ann\\20Lee+uid=a, o=x"
	user := []api.Attr{sent("CommonName", "ann  lee", "Ann"), sent("cn;Lang-DE", "Anna"), sent("X-Odd", "1"), sent("uidNumber", "seven"), sent("userPassword", "\xff\x00"), sent("mail", ""), sent("uid", "a")}
	own := sent("modifiersName", "o=x")
	for _, c := range []struct {
		wanted []string
		want   []api.Attr
	}{
		{nil, user},
		{[]string{}, user},
		{[]string{"*"}, user},
		{[]string{"+"}, []api.Attr{own}},
		{[]string{"+", "*"}, []api.Attr{user[0], user[1], user[2], user[3], own, user[4], user[5], user[6]}},
		{[]string{"1.1"}, nil},
		{[]string{"1.1", "uid"}, []api.Attr{user[6]}},
		{[]string{"UID", "2.5.4.3"}, []api.Attr{user[0], user[1], user[6]}},
		{[]string{"cn;lang-de"}, []api.Attr{user[1]}},
		{[]string{"name"}, []api.Attr{user[0], user[1]}},
		{[]string{"modifiersname", "x-ODD"}, []api.Attr{user[2], own}},
		{[]string{"c n", "", "\xff", "nope", "cn;"}, nil},
		{[]string{"mail", "mail", "MAIL"}, []api.Attr{user[5]}},
	} {
		q.Attributes, q.TypesOnly = c.wanted, false
		holdFound(t, s, q, []api.Found{found(name, c.want...)}, api.Result{})
		var types []api.Attr
		for _, a := range c.want {
			types = append(types, sent(a.Desc))
		}
		q.TypesOnly = true
		holdFound(t, s, q, []api.Found{found(name, types...)}, api.Result{})
	}
	q = api.Search{Base: "O=x", Scope: api.WholeSubtree, Filter: every(), Attributes: []string{"o", "createTimestamp"}}
	holdFound(t, s, q, []api.Found{found("O = X", sent("CreateTimestamp", "2024010112Z"), sent("O", "X")), found(name)}, api.Result{})
}

// P16.4, P16.5: each entry is told by entry.Select of it, whatever is wanted.
func TestAsSelected(t *testing.T) {
	m := newMaker(164)
	for range 50 {
		paths := m.paths(m.Intn(12))
		tree := treeOf(t, m.entries(t, paths))
		s := New(tree)
		for range 10 {
			wanted, typesOnly := m.attributes(), m.Intn(2) == 0
			var want []api.Found
			for n := range tree.Len() {
				e := tree.Entry(n)
				want = append(want, api.Found{Name: e.Name, Attributes: entry.Select(e, wanted, typesOnly)})
			}
			holdFound(t, s, api.Search{Base: paths[0].spelt(m.Rand), Scope: api.WholeSubtree, Filter: every(), Attributes: wanted, TypesOnly: typesOnly}, want, api.Result{})
		}
	}
}
