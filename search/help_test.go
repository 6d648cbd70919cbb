package search

import (
	"cmp"
	"fmt"
	"iter"
	"slices"
	"strings"
	"testing"

	"roster/api"
	"roster/dit"
	"roster/dn"
	"roster/entry"
	"roster/eval"
	"roster/filter"
	"roster/ldif"
)

// Snapshots, trees and stores.

// chapter is the chapter's snapshot, its records in another order than their numbers'.
const chapter = "version: 1\n\n" +
	"dn: o=x\no: x\ndescription: all\n\n" +
	"dn: ou=b,o=x\nou: b\ndescription: group\n\n" +
	"dn: ou=a,o=x\nou: a\ndescription: group\n\n" +
	"dn: cn=2,ou=a,o=x\ncn: 2\nsn: Bob\n\n" +
	"dn: cn=1,ou=b,o=x\ncn: 1\nsn: Eve\nmail: eve@x\n\n" +
	"dn: cn=1,ou=a,o=x\ncn: 1\nsn: Ada\nmail: ada@x\n"

// chapterNames are its names, by their numbers.
func chapterNames() []string {
	return []string{"o=x", "ou=a,o=x", "cn=1,ou=a,o=x", "cn=2,ou=a,o=x", "ou=b,o=x", "cn=1,ou=b,o=x"}
}

func entriesIn(t *testing.T, snapshot string) []api.Entry {
	t.Helper()
	records, err, line := ldif.Load(snapshot)
	if err != api.OK {
		t.Fatalf("ldif.Load: %d, line %d", err, line)
	}
	entries, err, line := entry.Gather(records)
	if err != api.OK {
		t.Fatalf("entry.Gather: %d, line %d", err, line)
	}
	return entries
}

func treeOf(t *testing.T, entries []api.Entry) *dit.Tree {
	t.Helper()
	tree, err, place := dit.Build(entries)
	if err != api.OK {
		t.Fatalf("dit.Build: %d, at %d", err, place)
	}
	return tree
}

func storeOf(t *testing.T, entries []api.Entry) *Store {
	t.Helper()
	return New(treeOf(t, entries))
}

func chapterStore(t *testing.T) *Store {
	t.Helper()
	return storeOf(t, entriesIn(t, chapter))
}

// named are entries of these names with nothing but what their names give.
func named(t *testing.T, names ...string) []api.Entry {
	t.Helper()
	var out []api.Entry
	for line, name := range names {
		e, err := entry.Make(api.Record{Line: line + 1, Name: name})
		if err != api.OK {
			t.Fatalf("%q is no name: %d", name, err)
		}
		out = append(out, e)
	}
	return out
}

// Filters, short.

func parsed(t *testing.T, s string) api.Filter {
	t.Helper()
	f, err, place := filter.Parse(s)
	if err != api.OK {
		t.Fatalf("%s is no filter's text: %d, %d", s, err, place)
	}
	return f
}

func nodes(ns ...api.FilterNode) api.Filter { return ns }

func with(o api.FilterOp, desc, value string) api.FilterNode {
	return api.FilterNode{Depth: 1, Op: o, Desc: desc, Value: value}
}

func sub(desc, initial string, between []string, final string) api.FilterNode {
	return api.FilterNode{Depth: 1, Op: api.Substrings, Desc: desc, Parts: api.Pattern{Initial: initial, Any: between, Final: final}}
}

func ext(desc, rule, value string, names bool) api.FilterNode {
	return api.FilterNode{Depth: 1, Op: api.Extensible, Desc: desc, Rule: rule, Value: value, DNAttrs: names}
}

// under is a node over filters.
func under(o api.FilterOp, fs ...api.Filter) api.Filter {
	out := nodes(with(o, "", ""))
	for _, f := range fs {
		for _, n := range f {
			n.Depth++
			out = append(out, n)
		}
	}
	return out
}

// chain is so many nodes of one Op, each alone in the one ahead of it, and a filter beneath them.
func chain(o api.FilterOp, many int, f api.Filter) api.Filter {
	for range many {
		f = under(o, f)
	}
	return f
}

// every is TRUE on every entry.
func every() api.Filter { return nodes(with(api.And, "", "")) }

// noFilters are lists that are none.
func noFilters() []api.Filter {
	cn := with(api.Present, "cn", "")
	second := cn
	second.Depth = 2
	return []api.Filter{
		nil, {}, nodes(cn, cn), nodes(with(api.Not, "", "")), nodes(with(10, "", "")), nodes(with(-1, "", "")), nodes(api.FilterNode{Depth: 2, Op: api.And}), nodes(api.FilterNode{Op: api.And}),
		nodes(with(api.And, "cn", "")), nodes(with(api.Present, "\xff", "")), nodes(with(api.Present, "cn", "x")), nodes(sub("cn", "", nil, "")), nodes(sub("cn", "", []string{""}, "x")), nodes(ext("", "", "x", true)),
		nodes(cn, second), under(api.Not, nodes(cn), nodes(cn)), under(api.Or, nodes(cn), nodes(sub("cn", "", nil, ""))), chain(api.And, api.MaxFilter, nodes(cn)), chain(api.Not, api.MaxFilter, every()),
	}
}

// What is told, as texts.

func toldFilter(f api.Filter) string {
	if text, err := filter.Print(f); err == api.OK {
		return text
	}
	var out strings.Builder
	for _, n := range f {
		fmt.Fprintf(&out, "{%d %d %q %q %q %q %v}", n.Depth, n.Op, n.Desc, n.Value, n.Parts, n.Rule, n.DNAttrs)
	}
	return out.String()
}

func toldSearch(q api.Search) string {
	return fmt.Sprintf("{base %q, scope %d, deref %d, limits %d and %d, types only %v, %s, %q}", q.Base, q.Scope, q.Deref, q.SizeLimit, q.TimeLimit, q.TypesOnly, toldFilter(q.Filter), q.Attributes)
}

// toldFound goes by the members, so nil and empty lists are told alike.
func toldFound(found []api.Found) string {
	var out strings.Builder
	for _, f := range found {
		fmt.Fprintf(&out, "{%q", f.Name)
		for _, a := range f.Attributes {
			fmt.Fprintf(&out, " %q/%q%q", a.Desc, a.Canon, a.Values)
		}
		out.WriteString("}")
	}
	return out.String()
}

// answers are all that a store tells of a search, as one text.
func answers(s *Store, q api.Search) string {
	n, base := s.Base(q.Base)
	found, result := s.Search(q)
	scanned, other := s.Scan(q)
	return fmt.Sprintf("%d %+v %d %s %+v %s %+v", n, base, slices.Collect(s.Matches(q)), toldFound(found), result, toldFound(scanned), other)
}

// The chapter told a second time: all entries are looked at, for whatever is asked.

type slow struct {
	entries []api.Entry // in the order of their keys
}

// slowOrder is the order of keys: part by part as bytes, the shorter first where one begins the other.
func slowOrder(a, b []string) int {
	for i := range min(len(a), len(b)) {
		if c := strings.Compare(a[i], b[i]); c != 0 {
			return c
		}
	}
	return cmp.Compare(len(a), len(b))
}

func slowStore(entries []api.Entry) slow {
	s := slow{slices.Clone(entries)}
	slices.SortFunc(s.entries, func(a, b api.Entry) int { return slowOrder(a.Key, b.Key) })
	return s
}

// begins tells whether one key begins another.
func begins(front, key []string) bool {
	return len(front) <= len(key) && slices.Equal(front, key[:len(front)])
}

// base is P16.2.
func (s slow) base(name string) (int, api.Result) {
	parts, err := dn.Parse(name)
	if err != nil {
		return -1, api.Result{Code: 34}
	}
	key, _ := dn.Key(parts)
	deepest, matched := -1, ""
	for n, e := range s.entries {
		if slices.Equal(e.Key, key) {
			return n, api.Result{}
		}
		if begins(e.Key, key) && len(e.Key) > deepest {
			deepest, matched = len(e.Key), e.Name
		}
	}
	return -1, api.Result{Code: 32, Matched: matched}
}

func (s slow) inScope(base, n int, scope api.Scope) bool {
	above, key := s.entries[base].Key, s.entries[n].Key
	switch scope {
	case 0:
		return n == base
	case 1:
		return begins(above, key) && len(key) == len(above)+1
	case 2:
		return begins(above, key)
	}
	return false
}

// meant are the entries that a search means.
func (s slow) meant(q api.Search) []int {
	base, result := s.base(q.Base)
	if result.Code != 0 {
		return nil
	}
	var out []int
	for n, e := range s.entries {
		if s.inScope(base, n, q.Scope) && eval.Value(q.Filter, e) == api.True {
			out = append(out, n)
		}
	}
	return out
}

// search is P16.4.
func (s slow) search(q api.Search) ([]api.Found, api.Result) {
	_, result := s.base(q.Base)
	meant := s.meant(q)
	if q.SizeLimit > 0 && len(meant) > q.SizeLimit {
		meant, result.Code = meant[:q.SizeLimit], 4
	}
	var found []api.Found
	for _, n := range meant {
		found = append(found, api.Found{Name: s.entries[n].Name, Attributes: entry.Select(s.entries[n], q.Attributes, q.TypesOnly)})
	}
	return found, result
}

// What is held.

func holdBase(t *testing.T, s *Store, name string, number int, result api.Result) {
	t.Helper()
	if n, r := s.Base(name); n != number || r != result {
		t.Fatalf("Base(%q) = %d, %+v, want %d, %+v", name, n, r, number, result)
	}
}

// holdGiven holds what an iterator gives: all of it, twice.
func holdGiven(t *testing.T, seq iter.Seq[int], want []int) {
	t.Helper()
	for range 2 {
		if got := slices.Collect(seq); !slices.Equal(got, want) {
			t.Fatalf("it gives %d, want %d", got, want)
		}
	}
}

func holdMatches(t *testing.T, s *Store, q api.Search, want []int) {
	t.Helper()
	if got := slices.Collect(s.Matches(q)); !slices.Equal(got, want) {
		t.Fatalf("Matches(%s) = %d, want %d", toldSearch(q), got, want)
	}
}

// ways are the two calls that answer a search.
func ways(s *Store) map[string]func(api.Search) ([]api.Found, api.Result) {
	return map[string]func(api.Search) ([]api.Found, api.Result){"Search": s.Search, "Scan": s.Scan}
}

// holdFound holds what Search and Scan answer.
func holdFound(t *testing.T, s *Store, q api.Search, want []api.Found, result api.Result) {
	t.Helper()
	for name, way := range ways(s) {
		if found, r := way(q); toldFound(found) != toldFound(want) || r != result {
			t.Fatalf("%s(%s) = %s, %+v, want %s, %+v", name, toldSearch(q), toldFound(found), r, toldFound(want), result)
		}
	}
}

// holdNames holds the names alone that Search and Scan find, without an error.
func holdNames(t *testing.T, s *Store, q api.Search, want ...string) {
	t.Helper()
	for name, way := range ways(s) {
		found, r := way(q)
		if got := namesOf(found); !slices.Equal(got, want) || r != (api.Result{}) {
			t.Fatalf("%s(%s) = %q, %+v, want %q", name, toldSearch(q), got, r, want)
		}
	}
}

func namesOf(found []api.Found) []string {
	var out []string
	for _, f := range found {
		out = append(out, f.Name)
	}
	return out
}

// holdAll holds all calls against the slow answers.
func holdAll(t *testing.T, s *Store, w slow, q api.Search) {
	t.Helper()
	number, result := w.base(q.Base)
	holdBase(t, s, q.Base, number, result)
	holdMatches(t, s, q, w.meant(q))
	found, result := w.search(q)
	holdFound(t, s, q, found, result)
}
