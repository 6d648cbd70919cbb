package search

import (
	"math/rand"
	"slices"
	"strings"
	"testing"

	"roster/api"
	"roster/attr"
	"roster/entry"
)

// spellings are parts of names, each written in several ways.
func spellings() [][]string {
	return [][]string{
		{"cn=Ann Lee", "CN=ann  lee", "commonName = ANN LEE ", "2.5.4.3=\\41nn Lee", "cn=#0c07416e6e204c6565"},
		{"cn=1", "Cn=1", "2.5.4.3=\\31", "COMMONNAME=#040131"},
		{"cn=1+sn=b", "SN=B+cn=1", "surname=b + commonName=1"},
		{"cn=10", "commonname=10"},
		{"ou=a\\,b", "OU=A\\2cB", "organizationalUnitName=a\\,B"},
		{"ou=a", "Ou=A", "2.5.4.11=#130161"},
		{"ou=caf\\c3\\a9", "ou=caf\xc3\xa9", "OU=CAF\xc3\xa9"},
		{"uid=x", "userid=X", "0.9.2342.19200300.100.1.1=x"},
		{"l=", "L=  ", "localityName=\\20"},
		{"dc=x", "DC=X", "domainComponent= x"},
		{"x-odd=1", "X-ODD=1"},
		{"uidNumber=7+gidNumber=8", "GIDNUMBER=8+UIDNUMBER=7"},
	}
}

// path tells parts by their numbers, the root's first: two names are the same if their paths are.
type path []int

// spelt is a name of this path, each part written in one of its ways.
func (p path) spelt(r *rand.Rand) string {
	var parts []string
	for _, number := range slices.Backward(p) {
		parts = append(parts, pick(r, spellings()[number]))
	}
	return strings.Join(parts, pick(r, []string{",", ", ", " ,"}))
}

func pick[E any](r *rand.Rand, from []E) E { return from[r.Intn(len(from))] }

// sample is what a syntax has: a description of it, its type's canonical form, values.
type sample struct {
	desc, canon string
	values      []string
}

func samples() []sample {
	return []sample{
		{"commonName", "cn", []string{"Ann  Lee", " aNN lee", "ann", "1", "", "\xff"}},
		{"labeledURI", "labeleduri", []string{"Ann  Lee", "Ann Lee ", "ann lee", ""}},
		{"rfc822Mailbox", "mail", []string{"Ann@x", "ann@X ", "b", "\xc3\xa9"}},
		{"homeDirectory", "homedirectory", []string{"/home/Ann", " /home/Ann", "/home/ann", "\x80"}},
		{"x121Address", "x121address", []string{"12 34", "1 234", "13", "1-2"}},
		{"fax", "facsimiletelephonenumber", []string{"+1 55-X", "+155x", "1*2"}},
		{"UIDNUMBER", "uidnumber", []string{"12", "-7", "100", "012", "7"}},
		{"hasSubordinates", "hassubordinates", []string{"TRUE", "FALSE", "true"}},
		{"2.5.4.35", "userpassword", []string{"a\xffz", "A", ""}},
		{"member", "member", []string{"cn=Bo, O=X", "CN=bo,o=x", "", "bo"}},
		{"objectClass", "objectclass", []string{"Person", "PERSON", "1a"}},
		{"createTimestamp", "createtimestamp", []string{"2024010112Z", "202401011300+01", "2024"}},
		{"postalAddress", "postaladdress", []string{"1 High  St$Oslo", "1 high st$OSLO", "a$$b"}},
		{"x500UniqueIdentifier", "x500uniqueidentifier", []string{"'01'B", "'1'B", "01"}},
		{"name", "name", []string{"Ann", "Annabel Lee"}},
		{"sn;Lang-DE", "sn;lang-de", []string{"Lee", "B"}},
		{"x-odd", "x-odd", []string{"1", "Ann"}},
	}
}

func ruleNames() []string {
	return []string{"", "", "caseIgnoreMatch", "CASEexactMATCH", "caseExactIA5Match", "numericStringMatch", "integerMatch", "booleanMatch", "octetStringMatch", "distinguishedNameMatch", "2.5.13.0", "2.5.13.27", "caseIgnoreOrderingMatch", "integerOrderingMatch", "integerBitAndMatch", "nameSubtreeMatch", "caseIgnoreListMatch", "bitStringMatch", "2.5.13.4", "octetStringSubstringsMatch", "wordMatch", "nope", "c n"}
}

// maker makes trees, filters and searches by chance.
type maker struct {
	*rand.Rand
	samples []sample
}

func newMaker(seed int64) *maker {
	return &maker{rand.New(rand.NewSource(seed)), samples()}
}

// paths are those of a tree's list, each behind its parent's.
func (m *maker) paths(count int) []path {
	all := []path{pick(m.Rand, []path{nil, {0}, {9}, {9, 5}, {3}})}
	for range count {
		child := append(slices.Clone(pick(m.Rand, all)), m.Intn(len(spellings())))
		if !slices.ContainsFunc(all, func(p path) bool { return slices.Equal(p, child) }) {
			all = append(all, child)
		}
	}
	return all
}

func (m *maker) pairs() []api.Pair {
	var out []api.Pair
	for range m.Intn(7) {
		one := pick(m.Rand, m.samples)
		out = append(out, api.Pair{Desc: one.desc, Value: pick(m.Rand, one.values)})
	}
	return out
}

// entries are a tree's list of these paths.
func (m *maker) entries(t *testing.T, paths []path) []api.Entry {
	t.Helper()
	var out []api.Entry
	for line, p := range paths {
		e, err := entry.Make(api.Record{Line: line, Name: p.spelt(m.Rand), Pairs: m.pairs()})
		if err != api.OK {
			t.Fatalf("entry.Make: %d", err)
		}
		out = append(out, e)
	}
	return out
}

// odd are entries such as no Make makes: Canons that are none or stand there twice, attributes without values, names that aren't of the keys.
func (m *maker) odd(entries []api.Entry) []api.Entry {
	out := slices.Clone(entries)
	for i := range out {
		out[i].Attrs = nil
		for range m.Intn(6) {
			one := pick(m.Rand, m.samples)
			a := api.Attr{Desc: "Desc of " + one.canon, Canon: pick(m.Rand, []string{one.canon, one.canon, one.desc, one.canon + ";x", one.canon + ";", ""})}
			for range m.Intn(3) {
				a.Values = append(a.Values, pick(m.Rand, one.values))
			}
			out[i].Attrs = append(out[i].Attrs, a)
		}
		out[i].Name = pick(m.Rand, []string{out[i].Name, "cn=Ann,uidNumber=12", "no name", "", "\xff"})
	}
	return out
}

// item is one that filter.Check takes.
func (m *maker) item() api.FilterNode {
	one := pick(m.Rand, m.samples)
	desc, value := pick(m.Rand, []string{one.desc, one.desc, one.canon, "name", "ou", "cn;lang-de", "c n"}), pick(m.Rand, one.values)
	switch o := api.FilterOp(3 + m.Intn(7)); o {
	case api.Present:
		return with(o, desc, "")
	case api.Substrings:
		n := sub(desc, value, nil, "")
		for range m.Intn(3) {
			n.Parts.Any = append(n.Parts.Any, pick(m.Rand, []string{"n", "a", " ", "1", "N  L", "home", "34"}))
		}
		if n.Parts.Initial == "" || m.Intn(2) == 0 {
			n.Parts.Initial, n.Parts.Final = "", pick(m.Rand, []string{"n", "Lee ", "2", " lee", "1 234", "@x"})
		}
		return n
	case api.Extensible:
		n := ext(desc, pick(m.Rand, ruleNames()), value, m.Intn(3) == 0)
		if n.Rule != "" && m.Intn(3) == 0 {
			n.Desc = ""
		}
		return n
	default:
		return with(o, desc, value)
	}
}

// filter is one of at most this depth.
func (m *maker) filter(depth int) api.Filter {
	if depth == 1 || m.Intn(4) == 0 {
		return nodes(m.item())
	}
	if m.Intn(4) == 0 {
		return under(api.Not, m.filter(depth-1))
	}
	var kids []api.Filter
	for range m.Intn(4) {
		kids = append(kids, m.filter(depth-1))
	}
	return under(api.FilterOp(m.Intn(2)), kids...)
}

// base is a name of an entry written anew, one beneath or beside it, or none.
func (m *maker) base(paths []path) string {
	p := slices.Clone(pick(m.Rand, paths))
	switch m.Intn(8) {
	case 0:
		for range 1 + m.Intn(3) {
			p = append(p, m.Intn(len(spellings())))
		}
	case 1:
		p = p[:m.Intn(len(p)+1)]
	case 2:
		return pick(m.Rand, []string{"x", "cn", "cn=a,", ",", "cn=\\", "cn=\xff", "o=nowhere", " "})
	}
	return p.spelt(m.Rand)
}

func (m *maker) attributes() []string {
	var out []string
	for range m.Intn(4) {
		out = append(out, pick(m.Rand, []string{"*", "+", "1.1", "cn", "NAME", "sn;lang-de", "createTimestamp", "c n", "", "2.5.4.35", "mail"}))
	}
	return out
}

// search is one with something in each of its fields.
func (m *maker) search(paths []path) api.Search {
	return api.Search{
		Base:       m.base(paths),
		Scope:      pick(m.Rand, []api.Scope{0, 1, 1, 2, 2, 2, 2, 3, -1}),
		Deref:      m.Intn(6) - 1,
		SizeLimit:  pick(m.Rand, []int{0, 0, 0, 1, 2, 3, 5, -1}),
		TimeLimit:  m.Intn(3) - 1,
		TypesOnly:  m.Intn(4) == 0,
		Filter:     m.filter(1 + m.Intn(4)),
		Attributes: m.attributes(),
	}
}

// The samples are of the types that they are said to be of.
func TestSamples(t *testing.T) {
	for _, one := range samples() {
		if canon, err, _ := attr.Canonical(one.desc); err != api.OK || canon != one.canon {
			t.Errorf("%s is %s, %d", one.desc, canon, err)
		}
	}
}
