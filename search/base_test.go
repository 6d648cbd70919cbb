package search

import (
	"slices"
	"strings"
	"testing"

	"roster/api"
	"roster/dit"
)

// P16.1: the tree that New was given, each store its own.
func TestTree(t *testing.T) {
	one, other := treeOf(t, entriesIn(t, chapter)), treeOf(t, named(t, "o=y"))
	s, u := New(one), New(other)
	if s.Tree() != one || u.Tree() != other {
		t.Error("Tree() is another one")
	}
	s.Search(api.Search{Base: "o=x", Scope: api.WholeSubtree, Filter: every()})
	if s.Tree() != one || New(one).Tree() != one {
		t.Error("Tree() is another one later")
	}
	holdBase(t, s, "o=x", 0, api.Result{})
	holdBase(t, u, "o=x", -1, api.Result{Code: 32})
	holdBase(t, u, "o=y", 0, api.Result{})
}

// P16.1: the numbers are the tree's, in whatever order the entries came.
func TestNumbersAreTheTrees(t *testing.T) {
	m := newMaker(161)
	for range 100 {
		tree := treeOf(t, m.entries(t, m.paths(m.Intn(15))))
		s := New(tree)
		var all []int
		for n := range tree.Len() {
			holdBase(t, s, tree.Entry(n).Name, n, api.Result{})
			all = append(all, n)
		}
		holdMatches(t, s, api.Search{Base: tree.Entry(0).Name, Scope: api.WholeSubtree, Filter: every()}, all)
	}
}

// P16.1, P0.1: what is done with the tree afterwards makes no difference: what was written into its answers, other stores of it.
func TestTreeAsked(t *testing.T) {
	tree := treeOf(t, entriesIn(t, chapter))
	s := New(tree)
	q := api.Search{Base: "o=x", Scope: api.WholeSubtree, Filter: parsed(t, "(|(sn=*)(description=*))")}
	want := answers(s, q)
	for n := range tree.Len() {
		e := tree.Entry(n)
		spoilTexts(e.Key)
		spoilAttrs(e.Attrs)
		spoilNumbers(tree.Children(n))
	}
	if got := answers(s, q); got != want {
		t.Errorf("it told %s, then %s", want, got)
	}
	if got := answers(New(tree), q); got != want {
		t.Errorf("another store of the tree tells %s, not %s", got, want)
	}
}

// P16.2: the chapter's examples.
func TestBaseExamples(t *testing.T) {
	s := chapterStore(t)
	for _, c := range []struct {
		name   string
		number int
		result api.Result
	}{
		{"ou=a,o=x", 1, api.Result{}},
		{"OU=A,O=X", 1, api.Result{}},
		{"cn=9,ou=a,o=x", -1, api.Result{Code: api.NoSuchObject, Matched: "ou=a,o=x"}},
		{"cn=9,ou=c,o=x", -1, api.Result{Code: api.NoSuchObject, Matched: "o=x"}},
		{"o=y", -1, api.Result{Code: api.NoSuchObject}},
		{"", -1, api.Result{Code: api.NoSuchObject}},
		{"x", -1, api.Result{Code: api.InvalidName}},
	} {
		holdBase(t, s, c.name, c.number, c.result)
	}
	for n, name := range chapterNames() {
		holdBase(t, s, name, n, api.Result{})
	}
}

// P16.2: names are the same if their keys are, however they are written.
func TestSameNames(t *testing.T) {
	s := storeOf(t, named(t, "o=x", "cn=Ann Lee+sn=B,o=x", "ou=a\\,b,o=x", "cn=\\#1,ou=a\\,b,o=x"))
	for number, names := range [][]string{
		{"o=x", "O=X", "o = x", " o=x ", "organizationName=x", "2.5.4.10=x", "o=\\78", "o=#040178", "o=#0C0158"},
		{"cn=Ann Lee+sn=B,o=x", "SN=b+CN=ANN LEE,o=x", "surname= b + commonName= ann   lee , O=X", "2.5.4.4=B+2.5.4.3=ann\\20lee,o=x"},
		{"ou=a\\,b,o=x", "ou=a\\2cb,o=x", "OU=A\\2CB,O=X"},
		{"cn=\\#1,ou=a\\,b,o=x", "cn=\\231,ou=a\\,b,o=x", "CN=\\#1 , OU=a\\,B , O=x"},
	} {
		for _, name := range names {
			holdBase(t, s, name, number, api.Result{})
		}
	}
	for _, name := range []string{"cn=Ann Lee,o=x", "sn=B,o=x", "cn=AnnLee+sn=B,o=x", "cn=Ann Lee\\+sn=B,o=x", "cn=Ann Lee,sn=B,o=x", "ou=b,o=x", "b=x,o=x"} {
		holdBase(t, s, name, -1, api.Result{Code: 32, Matched: "o=x"})
	}
}

// P16.2: names that don't parse, of each kind; matched is empty even where an ancestor would be there.
func TestNoNames(t *testing.T) {
	s := chapterStore(t)
	parts := strings.Repeat("cn=a,", api.MaxParts) + "o=x"
	pairs := "cn=a+sn=a+c=a+l=a+st=a+street=a+o=a+ou=a+title=a,o=x"
	for _, name := range []string{
		"x", " ", ",", ",o=x", "ou=a,o=x,", "ou=a,,o=x", "=a,o=x", "o", "o x", "o;lang-de=x", "o=x\\", "o=x\\4", "cn=a;o=x", "cn=a<b,o=x", "cn=\"a\",o=x", "cn=a\x00,o=x", "cn=#,o=x", "cn=#04,o=x", "cn=#0401,o=x", "cn=#3000,o=x", "cn=#040161z,o=x",
		"cn=\xff,o=x", "cn=\\ff,o=x", "cn=a+commonName=b,o=x", "02.5=a,o=x", "+,o=x", "cn=a+,o=x", parts, pairs,
		"cn=" + strings.Repeat("a", api.MaxName) + ",o=x", strings.Repeat(" ", api.MaxName) + "o=x",
	} {
		holdBase(t, s, name, -1, api.Result{Code: api.InvalidName})
	}
}

// P16.2: as long, as deep and as wide as a name may be, it is looked for.
func TestGreatNames(t *testing.T) {
	s := chapterStore(t)
	for _, name := range []string{
		strings.Repeat("cn=a,", api.MaxParts-1) + "o=x",
		"cn=a+sn=a+c=a+l=a+st=a+street=a+o=a+ou=a,o=x",
		"cn=" + strings.Repeat("a", api.MaxName-len("cn=,o=x")) + ",o=x",
	} {
		holdBase(t, s, name, -1, api.Result{Code: 32, Matched: "o=x"})
	}
	var names []string
	name := "o=x"
	for range api.MaxParts {
		names = append(names, name)
		name = "cn=a," + name
	}
	deep := storeOf(t, named(t, names...))
	for n, name := range names {
		holdBase(t, deep, name, n, api.Result{})
		if n < len(names)-1 {
			holdBase(t, deep, "cn=b,"+name, -1, api.Result{Code: 32, Matched: name})
		}
	}
}

// P16.2: matched is the deepest entry's Name as the snapshot has it; no part of a part counts.
func TestMatched(t *testing.T) {
	s := storeOf(t, named(t, "O = X", "OU=a\\2cb ,O=x", "Cn=1,ou=A\\,B, o=X", "cn=1,commonName=1,ou=a\\,b,o=x"))
	for name, want := range map[string]string{
		"cn=2,cn=1,cn=1,ou=a\\,b,o=x":      "cn=1,commonName=1,ou=a\\,b,o=x",
		"cn=1,cn=1,cn=1,cn=1,ou=a\\,b,o=x": "cn=1,commonName=1,ou=a\\,b,o=x",
		"cn=2,cn=1,ou=a\\,b,o=x":           "Cn=1,ou=A\\,B, o=X",
		"cn=1,cn=2,ou=a\\,b,o=x":           "OU=a\\2cb ,O=x",
		"cn=1,cn=1,cn=2,ou=a\\,b,o=x":      "OU=a\\2cb ,O=x",
		"cn=1+sn=b,ou=a\\,b,o=x":           "OU=a\\2cb ,O=x",
		"cn=1,ou=a\\, b,o=x":               "O = X",
		"ou=a,o=x":                         "O = X",
		"cn=1,o=x":                         "O = X",
		"cn=1,ou=a,o=x":                    "O = X",
		"o=x,o=x":                          "O = X",
		"o=x,o=y":                          "",
		"ou=a\\,b":                         "",
		"cn=1":                             "",
		"o=xx":                             "",
		"o=x+ou=a":                         "",
		"cn=1,o=xx":                        "",
	} {
		holdBase(t, s, name, -1, api.Result{Code: 32, Matched: want})
	}
}

// P16.2: the name without a part, as the root's and where it is no entry's; and a root of several parts.
func TestNameWithoutPart(t *testing.T) {
	root := storeOf(t, named(t, "", "o=x", "cn=1,o=x"))
	holdBase(t, root, "", 0, api.Result{})
	holdBase(t, root, "o=x", 1, api.Result{})
	holdBase(t, root, "o=y", -1, api.Result{Code: 32})
	holdBase(t, root, "cn=2,o=x", -1, api.Result{Code: 32, Matched: "o=x"})
	holdBase(t, root, " ", -1, api.Result{Code: 34})
	lower := storeOf(t, named(t, "ou=a,o=x", "cn=1,ou=a,o=x"))
	holdBase(t, lower, "ou=a,o=x", 0, api.Result{})
	for _, name := range []string{"", "o=x", "ou=b,o=x", "cn=1,o=x", "ou=a"} {
		holdBase(t, lower, name, -1, api.Result{Code: 32})
	}
	holdBase(t, lower, "cn=2,ou=a,o=x", -1, api.Result{Code: 32, Matched: "ou=a,o=x"})
}

// P16.2: names of all kinds, known to be the same or not by their paths, over trees of all shapes.
func TestManyBases(t *testing.T) {
	m := newMaker(162)
	for range 200 {
		paths := m.paths(m.Intn(15))
		entries := m.entries(t, paths)
		tree := treeOf(t, entries)
		s, w := New(tree), slowStore(entries)
		for place, p := range paths {
			n, r := s.Base(p.spelt(m.Rand))
			if n < 0 || tree.Place(n) != place || r != (api.Result{}) {
				t.Fatalf("of %q it told %d, %+v", entries[place].Name, n, r)
			}
		}
		for range 30 {
			p := slices.Concat(pick(m.Rand, paths), path{m.Intn(len(spellings())), m.Intn(len(spellings()))})
			name := p.spelt(m.Rand)
			number, result := w.base(name)
			holdBase(t, s, name, number, result)
			for len(p) > 0 && !slices.ContainsFunc(paths, func(other path) bool { return slices.Equal(other, p) }) {
				p = p[:len(p)-1]
			}
			place := slices.IndexFunc(paths, func(other path) bool { return slices.Equal(other, p) })
			if result.Code == 32 && result.Matched != entries[place].Name {
				t.Fatalf("of %q it told %q, want %q", name, result.Matched, entries[place].Name)
			}
			name = m.base(paths)
			number, result = w.base(name)
			holdBase(t, s, name, number, result)
		}
	}
}

// P16.2, P0.1: no tree, and one that Build didn't make, are as a tree of no entries: every name that parses is no entry's.
func TestNoEntries(t *testing.T) {
	for _, tree := range []*dit.Tree{nil, {}} {
		s := New(tree)
		if s.Tree() != tree {
			t.Error("Tree() is another one")
		}
		for name, result := range map[string]api.Result{"": {Code: 32}, "o=x": {Code: 32}, "cn=1,o=x": {Code: 32}, "x": {Code: 34}} {
			holdBase(t, s, name, -1, result)
			for scope := range api.Scope(4) {
				q := api.Search{Base: name, Scope: scope, Filter: every()}
				holdMatches(t, s, q, nil)
				holdFound(t, s, q, nil, result)
			}
		}
	}
}
