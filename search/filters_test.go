package search

import (
	"slices"
	"testing"

	"roster/api"
	"roster/dit"
	"roster/index"
)

// P16.3, P16.4, P16.5: on what is no filter every value is Undefined: nothing is meant, and that is Success.
func TestNoFilters(t *testing.T) {
	s := chapterStore(t)
	for _, f := range noFilters() {
		for scope := range api.Scope(3) {
			for _, limit := range []int{0, 1} {
				q := api.Search{Base: "ou=a,o=x", Scope: scope, Filter: f, SizeLimit: limit}
				holdMatches(t, s, q, nil)
				holdFound(t, s, q, nil, api.Result{})
			}
		}
	}
}

// mixed is a tree with values of several syntaxes.
const mixed = "version: 1\n\n" +
	"dn: dc=x\n" + "objectClass: domain\n\n" +
	"dn: cn=Ann Lee,dc=x\n" + "sn: Lee\nuidNumber: 7\nmail: Ann@x\nlabeledURI: Http://x\ncreateTimestamp: 2024010112Z\nmember: cn=Bo,dc=x\n\n" +
	"dn: cn=Bo,dc=x\n" + "sn;lang-en: LEE\nuidNumber: 12\nmail: \nx-odd: 1\ndescription: Annabel  Lee\n\n" +
	"dn: uid=c+uidNumber=100,dc=x\n" + "uidNumber: x\ngivenName: Lea\n"

// P16.3, P16.4, P16.5: filters of each Op, and how they are joined.
func TestEachOp(t *testing.T) {
	s := storeOf(t, entriesIn(t, mixed)) // 0 dc=x, 1 Ann, 2 Bo, 3 uid=c
	for text, want := range map[string][]int{
		"(&)": {0, 1, 2, 3}, "(|)": nil, "(!(&))": nil, "(!(|))": {0, 1, 2, 3}, "(!(!(&)))": {0, 1, 2, 3},
		"(sn=lee)": {1, 2}, "(sn;lang-en=lee)": {2}, "(surname=LEE )": {1, 2}, "(name=lea)": {3}, "(uidNumber=7)": {1}, "(uidNumber=07)": nil, "(uidNumber=x)": nil, "(member=CN=BO, DC=X)": {1}, "(dc=X)": {0}, "(sn=)": nil,
		"(!(sn=lee))": {0, 3}, "(!(sn;lang-en=lee))": {0, 1, 3}, "(!(uidNumber=x))": nil,
		"(sn~=lee)": {1, 2}, "(mail=ANN@X)": {1}, "(mail=)": {2}, "(!(mail=))": {0, 1, 3}, "(x-odd=1)": nil, "(!(x-odd=1))": nil, "(x-odd=*)": nil, "(!(x-odd=*))": nil,
		"(name=*ee)": {1, 2}, "(name=le*)": {1, 2, 3}, "(cn=*n*e*)": {1}, "(description=*l  l*)": {2}, "(description=annabel*lee)": {2}, "(description=ann*bell*)": nil, "(!(name=*ee))": {0, 3}, "(uidNumber=1*)": nil, "(!(uidNumber=1*))": nil, "(mail=*@*)": {1}, "(labeledURI=H*)": {1}, "(labeledURI=h*)": nil,
		"(uidNumber>=8)": {2, 3}, "(uidNumber<=12)": {1, 2}, "(!(uidNumber>=8))": {0, 1}, "(!(uidNumber<=12))": {0, 3}, "(mail>=a)": nil, "(!(mail>=a))": nil, "(sn>=le)": {1, 2}, "(sn<=le)": nil, "(createTimestamp<=2024010113Z)": {1}, "(createTimestamp>=202401011500+03)": {1},
		"(mail=*)": {1, 2}, "(!(mail=*))": {0, 3}, "(cn=*)": {1, 2}, "(name=*)": {1, 2, 3}, "(uidNumber=*)": {1, 2, 3}, "(objectClass=*)": {0},
		"(cn:=bo)": {2}, "(cn:caseExactMatch:=bo)": nil, "(cn:caseExactMatch:=Bo)": {2}, "(:caseIgnoreMatch:=lee)": {1, 2}, "(dc:dn:=x)": {0, 1, 2, 3}, "(dc:=x)": {0}, "(!(dc:dn:=x))": nil, "(:dn:caseIgnoreIA5Match:=x)": {0, 1, 2, 3}, "(uidNumber:integerBitAndMatch:=4)": {1, 2, 3}, "(uidNumber:integerBitAndMatch:=3)": {1}, "(uidNumber:integerBitAndMatch:=x)": nil, "(description:wordMatch:=lee)": {2}, "(member:nameSubtreeMatch:=dc=x)": {1}, "(cn:nosuch:=bo)": nil, "(!(cn:nosuch:=bo))": nil,
		"(&(sn=lee)(mail=*@*))": {1}, "(&(sn=lee)(x-odd=1))": nil, "(|(sn=lee)(x-odd=1))": {1, 2}, "(!(&(sn=lee)(x-odd=1)))": {0, 3}, "(!(|(sn=lee)(x-odd=1)))": nil, "(|(&)(x-odd=1))": {0, 1, 2, 3}, "(&(|)(x-odd=1))": nil, "(!(&(|)(x-odd=1)))": {0, 1, 2, 3},
		"(&(!(sn=*))(!(objectClass=*)))": {3}, "(|(dc=x)(&(cn=*)(!(uidNumber>=8)))(givenName=l*a))": {0, 1, 3},
	} {
		q := api.Search{Base: "dc=x", Scope: api.WholeSubtree, Filter: parsed(t, text)}
		holdMatches(t, s, q, want)
		var names []string
		for _, n := range want {
			names = append(names, s.Tree().Entry(n).Name)
		}
		holdNames(t, s, q, names...)
	}
}

// P16.3, P16.4, P16.5: filters as deep as may be.
func TestDeepFilters(t *testing.T) {
	s := chapterStore(t)
	has := nodes(with(api.Present, "mail", ""))
	for _, c := range []struct {
		f    api.Filter
		want []int
	}{
		{chain(api.And, api.MaxFilter-1, has), []int{2, 5}},
		{chain(api.Or, api.MaxFilter-1, has), []int{2, 5}},
		{chain(api.Not, api.MaxFilter-1, has), []int{0, 1, 3, 4}},
		{chain(api.Not, api.MaxFilter-2, has), []int{2, 5}},
		{chain(api.And, api.MaxFilter-1, every()), []int{0, 1, 2, 3, 4, 5}},
		{chain(api.Not, api.MaxFilter-1, every()), nil},
		{chain(api.Not, api.MaxFilter-1, nodes(with(api.Present, "foo", ""))), nil},
		{chain(api.And, api.MaxFilter, has), nil},
	} {
		holdMatches(t, s, api.Search{Base: "o=x", Scope: api.WholeSubtree, Filter: c.f}, c.want)
		holdAll(t, s, slowStore(entriesIn(t, chapter)), api.Search{Base: "o=x", Scope: api.WholeSubtree, Filter: c.f})
	}
}

// P16.4, P16.5, P0.3: searches of all kinds over trees of all kinds are answered as the chapter says, by way of the index and by a look at every entry.
func TestManySearches(t *testing.T) {
	m := newMaker(165)
	foundSome, limited, refused := 0, 0, 0
	for round := range 150 {
		paths := m.paths(m.Intn(15))
		entries := m.entries(t, paths)
		if round%3 == 0 {
			entries = m.odd(entries)
		}
		s, w := storeOf(t, entries), slowStore(entries)
		for range 40 {
			q := m.search(paths)
			holdAll(t, s, w, q)
			found, result := w.search(q)
			if len(found) > 0 {
				foundSome++
			}
			switch result.Code {
			case api.SizeLimitExceeded:
				limited++
			case api.NoSuchObject, api.InvalidName:
				refused++
			}
		}
	}
	if foundSome < 500 || limited < 50 || refused < 500 {
		t.Errorf("of 6000 searches %d found something, %d were cut short, %d refused", foundSome, limited, refused)
	}
}

// P16.5, P0.3: each item by itself, of every description, rule and value, finds the same both ways; so does its Not.
func TestEachItemBothWays(t *testing.T) {
	m := newMaker(166)
	paths := m.paths(8)
	entries := append(m.entries(t, paths), m.odd(named(t, "description=odd,"+paths[0].spelt(m.Rand)))...)
	entries[0].Attrs = nil
	for _, one := range samples() {
		entries[0].Attrs = append(entries[0].Attrs, api.Attr{Desc: one.desc, Canon: one.canon, Values: one.values})
	}
	s, w := storeOf(t, entries), slowStore(entries)
	hold := func(n api.FilterNode) {
		for _, f := range []api.Filter{nodes(n), under(api.Not, nodes(n))} {
			holdAll(t, s, w, api.Search{Base: entries[0].Name, Scope: api.WholeSubtree, Filter: f, Attributes: []string{"1.1"}})
		}
	}
	for _, one := range samples() {
		hold(with(api.Present, one.desc, ""))
		for _, value := range one.values {
			for _, o := range []api.FilterOp{api.Equality, api.Approx, api.AtLeast, api.AtMost} {
				hold(with(o, one.desc, value))
			}
			if value != "" {
				hold(sub(one.desc, value, nil, ""))
				hold(sub(one.desc, "", []string{value}, ""))
				hold(sub(one.desc, value[:1], nil, value[1:]))
			}
			for _, rule := range ruleNames() {
				hold(ext(one.desc, rule, value, false))
				hold(ext(one.desc, rule, value, true))
			}
		}
	}
}

// P16.4, P16.5: Search asks the index, and looks at its candidates alone; Scan doesn't ask it. An index that knows of no attribute is seen in the one and not in the other.
func TestWhoAsksTheIndex(t *testing.T) {
	tree := treeOf(t, entriesIn(t, chapter))
	s := &Store{tree, index.Build(make([]api.Entry, tree.Len()))}
	q := api.Search{Base: "o=x", Scope: api.WholeSubtree, Filter: parsed(t, "(mail=*)")}
	if got, r := s.Search(q); len(got) != 0 || r != (api.Result{}) {
		t.Errorf("Search = %s, %+v", toldFound(got), r)
	}
	if got, r := s.Scan(q); !slices.Equal(namesOf(got), []string{"cn=1,ou=a,o=x", "cn=1,ou=b,o=x"}) || r != (api.Result{}) {
		t.Errorf("Scan = %s, %+v", toldFound(got), r)
	}
}

// P16.4: the index is of the same entries in the same order, so its numbers are the tree's.
func TestIndexNumbers(t *testing.T) {
	m := newMaker(167)
	for range 30 {
		tree := treeOf(t, m.entries(t, m.paths(20)))
		s := New(tree)
		if s.indexed.Size() != tree.Len() {
			t.Fatalf("the index has %d entries, the tree %d", s.indexed.Size(), tree.Len())
		}
		for _, one := range samples() {
			if got, want := s.indexed.Present(one.desc), having(tree, one.canon); !slices.Equal(got, want) {
				t.Fatalf("%d have %s, want %d", got, one.canon, want)
			}
		}
	}
}

// having are the entries of which one attribute with a value is covered: by its own name here, or beneath name.
func having(tree *dit.Tree, canon string) []int {
	under := map[string]bool{canon: true}
	if canon == "name" {
		for _, c := range []string{"cn", "sn;lang-de", "sn", "ou", "l"} {
			under[c] = true
		}
	}
	var out []int
	for n := range tree.Len() {
		if slices.ContainsFunc(tree.Entry(n).Attrs, func(a api.Attr) bool { return under[a.Canon] }) {
			out = append(out, n)
		}
	}
	return out
}
