package view

import (
	"cmp"
	"fmt"
	"math/big"
	"slices"
	"strconv"
	"strings"
	"testing"

	"roster/api"
	"roster/attr"
	"roster/dit"
	"roster/entry"
	"roster/filter"
	"roster/match"
	"roster/search"
	"roster/text"
)

// Entries, trees and views.

func made(t *testing.T, name string, pairs ...string) api.Entry {
	t.Helper()
	r := api.Record{Name: name}
	for _, p := range pairs {
		desc, value, _ := strings.Cut(p, ": ")
		r.Pairs = append(r.Pairs, api.Pair{Desc: desc, Value: value})
	}
	e, err := entry.Make(r)
	if err != api.OK {
		t.Fatalf("%+v is no record: %d", r, err)
	}
	return e
}

// five are the chapter's entries, by their numbers.
func five(t *testing.T) []api.Entry {
	t.Helper()
	return []api.Entry{
		made(t, "o=x", "description: all"),
		made(t, "cn=b,o=x", "sn: Zed", "uidNumber: 7"),
		made(t, "cn=c,o=x", "sn: adam", "sn: Yan", "uidNumber: 12"),
		made(t, "cn=d,o=x", "uidNumber: 7", "uidNumber: x"),
		made(t, "cn=e,o=x", "sn: ADAM"),
	}
}

// fiveView is a view of them; they came in another order than their numbers'.
func fiveView(t *testing.T) *View {
	t.Helper()
	f := five(t)
	return viewOf(t, []api.Entry{f[0], f[4], f[2], f[3], f[1]})
}

func treeOf(t *testing.T, entries []api.Entry) *dit.Tree {
	t.Helper()
	tree, err, place := dit.Build(entries)
	if err != api.OK {
		t.Fatalf("dit.Build: %d, at %d", err, place)
	}
	return tree
}

func viewOf(t *testing.T, entries []api.Entry) *View {
	t.Helper()
	return New(treeOf(t, entries))
}

// valued is an entry such as no Make made, with one attribute of this Canon.
func valued(canon string, values ...string) api.Entry {
	return api.Entry{Attrs: []api.Attr{{Desc: "odd", Canon: canon, Values: values}}}
}

// Sort keys and searches, short.

// by are sort keys: each text is a description, with a - ahead of it if it is turned about, with a : and a rule behind it if there is one.
func by(texts ...string) []api.SortKey {
	var out []api.SortKey
	for _, s := range texts {
		s, reverse := strings.CutPrefix(s, "-")
		desc, rule, _ := strings.Cut(s, ":")
		out = append(out, api.SortKey{Desc: desc, Rule: rule, Reverse: reverse})
	}
	return out
}

// turned are the same keys, all turned about.
func turned(keys []api.SortKey) []api.SortKey {
	out := slices.Clone(keys)
	for i := range out {
		out[i].Reverse = !out[i].Reverse
	}
	return out
}

func parsed(t *testing.T, s string) api.Filter {
	t.Helper()
	f, err, place := filter.Parse(s)
	if err != api.OK {
		t.Fatalf("%s is no filter's text: %d, %d", s, err, place)
	}
	return f
}

// every is TRUE on every entry, never on none.
func every() api.Filter { return api.Filter{{Depth: 1, Op: api.And}} }
func never() api.Filter { return api.Filter{{Depth: 1, Op: api.Or}} }

// kids is the search of the chapter's examples.
func kids(limit int) api.Search {
	return api.Search{Base: "o=x", Scope: api.SingleLevel, SizeLimit: limit, Filter: every(), Attributes: []string{"uidNumber"}}
}

// whole is the search for all that a view of the five has.
func whole() api.Search {
	return api.Search{Base: "o=x", Scope: api.WholeSubtree, Filter: every()}
}

// What is told, as texts: by the members, so nil and empty lists are told alike.

func toldAttrs(attrs []api.Attr) string {
	var out strings.Builder
	for _, a := range attrs {
		fmt.Fprintf(&out, " %q/%q%q", a.Desc, a.Canon, a.Values)
	}
	return out.String()
}

func toldFound(found []api.Found) string {
	var out strings.Builder
	for _, f := range found {
		fmt.Fprintf(&out, "{%q%s}", f.Name, toldAttrs(f.Attributes))
	}
	return out.String()
}

func toldEntry(e api.Entry) string {
	return fmt.Sprintf("%d %q %q%s", e.Line, e.Name, e.Key, toldAttrs(e.Attrs))
}

func toldSearch(q api.Search) string {
	return fmt.Sprintf("{base %q, scope %d, limit %d, types only %v, %+v, %q}", q.Base, q.Scope, q.SizeLimit, q.TypesOnly, q.Filter, q.Attributes)
}

// toldTree is all that a tree has.
func toldTree(t *dit.Tree) string {
	var out strings.Builder
	for n := range t.Len() {
		lo, hi := t.Span(n)
		fmt.Fprintln(&out, toldEntry(t.Entry(n)), t.Place(n), t.Parent(n), lo, hi)
	}
	return out.String()
}

// answers are all that a view tells of a search, as one text.
func answers(v *View, q api.Search, keys []api.SortKey, size int, cookie string) string {
	found, result, err := v.Sorted(q, keys)
	page, next, pageResult, pageErr := v.Page(q, keys, size, cookie)
	out := fmt.Sprintf("%s %+v %d; %s %q %+v %d;", toldFound(found), result, err, toldFound(page), next, pageResult, pageErr)
	for p := range v.Pages(q, keys, size) {
		out += toldFound(p) + ";"
	}
	return out
}

// The chapter told a second time: every key is read anew whenever it is asked, every entry held against every other.

// orderingRules are the six, with the syntaxes on which they may be used.
type orderingRule struct {
	name, id string
	own      api.Syntax
	suits    []api.Syntax
}

func orderingRules() []orderingRule {
	texts := []api.Syntax{api.SynText, api.SynExact}
	return []orderingRule{
		{"caseIgnoreOrderingMatch", "2.5.13.3", api.SynText, texts},
		{"caseExactOrderingMatch", "2.5.13.6", api.SynExact, texts},
		{"numericStringOrderingMatch", "2.5.13.9", api.SynNumeric, []api.Syntax{api.SynNumeric}},
		{"integerOrderingMatch", "2.5.13.15", api.SynInteger, []api.Syntax{api.SynInteger}},
		{"octetStringOrderingMatch", "2.5.13.18", api.SynOctet, []api.Syntax{api.SynOctet}},
		{"generalizedTimeOrderingMatch", "2.5.13.28", api.SynTime, []api.Syntax{api.SynTime}},
	}
}

// slowSyntax is the syntax by whose order a key sorts, and its error, whatever stands ahead of it.
func slowSyntax(k api.SortKey) (api.Syntax, api.Errno) {
	s := attr.Syntax(k.Desc)
	if s == api.SynNone {
		return 0, 220
	}
	if k.Rule == "" {
		if slices.Contains([]api.Syntax{api.SynText, api.SynExact, api.SynNumeric, api.SynInteger, api.SynOctet, api.SynTime}, s) {
			return s, 0
		}
		return 0, 221
	}
	for _, r := range orderingRules() {
		if (k.Rule == r.id || text.Fold(k.Rule) == text.Fold(r.name)) && slices.Contains(r.suits, s) {
			return r.own, 0
		}
	}
	return 0, 221
}

// slowCheck is P22.1.
func slowCheck(keys []api.SortKey) (api.Errno, int) {
	for number, k := range keys {
		if number >= 8 {
			return 220, number
		}
		_, err := slowSyntax(k)
		canon, _, _ := attr.Canonical(k.Desc)
		for _, other := range keys[:number] {
			if c, _, _ := attr.Canonical(other.Desc); c == canon {
				err = 220
			}
		}
		if err != 0 {
			return err, number
		}
	}
	return 0, 0
}

// slowForms compares two normal forms of an ordered syntax.
func slowForms(s api.Syntax, a, b string) int {
	if s != api.SynInteger {
		return strings.Compare(a, b)
	}
	x, _ := new(big.Int).SetString(a, 10)
	y, _ := new(big.Int).SetString(b, 10)
	return x.Cmp(y)
}

// slowHas is what an entry has under a key: all its normal forms, rising.
func slowHas(k api.SortKey, e api.Entry) []string {
	s, _ := slowSyntax(k)
	var out []string
	for _, value := range entry.Values(e, k.Desc) {
		if normal, ok := match.Normal(s, value); ok {
			out = append(out, normal)
		}
	}
	slices.SortFunc(out, func(a, b string) int { return slowForms(s, a, b) })
	return out
}

func slowByKey(k api.SortKey, a, b api.Entry) int {
	x, y := slowHas(k, a), slowHas(k, b)
	c := 0
	if len(x) > 0 && len(y) > 0 {
		s, _ := slowSyntax(k)
		c = slowForms(s, x[0], y[0])
	} else {
		c = cmp.Compare(min(1, len(y)), min(1, len(x)))
	}
	if k.Reverse {
		return -c
	}
	return c
}

// slowCompare is P22.2.
func slowCompare(keys []api.SortKey, a, b api.Entry) int {
	if err, _ := slowCheck(keys); err != 0 {
		return 0
	}
	return slowByKeys(keys, a, b)
}

func slowByKeys(keys []api.SortKey, a, b api.Entry) int {
	for _, k := range keys {
		if c := slowByKey(k, a, b); c != 0 {
			return c
		}
	}
	return 0
}

// slowOrder is P22.3: an entry's place in the order is the number of those that stand ahead of it.
func slowOrder(keys []api.SortKey, entries []api.Entry) ([]int, api.Errno, int) {
	if err, number := slowCheck(keys); err != 0 {
		return nil, err, number
	}
	ahead := make([]int, len(entries))
	for i, e := range entries {
		for j, later := range entries[i+1:] {
			if slowByKeys(keys, e, later) <= 0 {
				ahead[i+1+j]++
			} else {
				ahead[i]++
			}
		}
	}
	out := make([]int, len(entries))
	for place, many := range ahead {
		out[many] = place
	}
	return out, 0, 0
}

// slow is what a view's store tells of one search by some keys.
type slow struct {
	based   bool
	numbers []int // of what is found
	found   []api.Found
	result  api.Result
	err     api.Errno
}

// slowSorted is P22.5: what Search tells without a limit, laid in the order of the keys.
func slowSorted(store *search.Store, q api.Search, keys []api.SortKey) slow {
	if err, _ := slowCheck(keys); err != 0 {
		return slow{err: err}
	}
	if n, result := store.Base(q.Base); n < 0 {
		return slow{result: result}
	}
	limit := q.SizeLimit
	q.SizeLimit = 0
	all, _ := store.Search(q)
	var entries []api.Entry
	numbers := slices.Collect(store.Matches(q))
	for _, n := range numbers {
		entries = append(entries, store.Tree().Entry(n))
	}
	places, _, _ := slowOrder(keys, entries)
	w := slow{based: true}
	for i, place := range places {
		if i == limit && limit > 0 {
			w.result.Code = 4
			break
		}
		w.numbers, w.found = append(w.numbers, numbers[place]), append(w.found, all[place])
	}
	return w
}

// page is P22.6: every cookie that can be given is held against the one that was.
func (w slow) page(size int, cookie string) ([]api.Found, string, api.Result, api.Errno) {
	switch {
	case w.err != 0:
		return nil, "", api.Result{}, w.err
	case size < 1:
		return nil, "", api.Result{}, 222
	case !w.based:
		return nil, "", w.result, 0
	}
	begin := 0
	if cookie != "" {
		begin = -1
		for i, n := range w.numbers {
			if strconv.Itoa(n) == cookie && i+1 < len(w.numbers) {
				begin = i + 1
			}
		}
		if begin < 0 {
			return nil, "", api.Result{}, 223
		}
	}
	var page []api.Found
	for i := begin; i < len(w.found) && len(page) < size; i++ {
		page = append(page, w.found[i])
	}
	if begin+len(page) == len(w.found) {
		return page, "", w.result, 0
	}
	return page, strconv.Itoa(w.numbers[begin+len(page)-1]), api.Result{}, 0
}

// pages is P22.7.
func (w slow) pages(size int) [][]api.Found {
	var out [][]api.Found
	for cookie := ""; ; {
		page, next, _, err := w.page(size, cookie)
		if err != 0 || len(page) == 0 {
			return out
		}
		out = append(out, page)
		if next == "" {
			return out
		}
		cookie = next
	}
}

// What is held.

func holdCheck(t *testing.T, keys []api.SortKey, err api.Errno, number int) {
	t.Helper()
	if e, n := Check(keys); e != err || n != number {
		t.Fatalf("Check(%+v) = %d, %d, want %d, %d", keys, e, n, err, number)
	}
}

func holdCompare(t *testing.T, keys []api.SortKey, a, b api.Entry, want int) {
	t.Helper()
	if got := Compare(keys, a, b); got != want {
		t.Fatalf("Compare(%+v, %s, %s) = %d, want %d", keys, toldEntry(a), toldEntry(b), got, want)
	}
}

func holdOrder(t *testing.T, keys []api.SortKey, entries []api.Entry, want ...int) {
	t.Helper()
	if got, err, number := Order(keys, entries); !slices.Equal(got, want) || err != 0 || number != 0 {
		t.Fatalf("Order(%+v, %+v) = %d, %d, %d, want %d", keys, entries, got, err, number, want)
	}
}

// holdNoOrder holds the refusal of all calls that sort.
func holdNoOrder(t *testing.T, keys []api.SortKey, entries []api.Entry, want api.Errno, at int) {
	t.Helper()
	holdCheck(t, keys, want, at)
	if got, err, number := Order(keys, entries); len(got) != 0 || err != want || number != at {
		t.Fatalf("Order(%+v) = %d, %d, %d, want %d, %d", keys, got, err, number, want, at)
	}
	for _, a := range entries {
		for _, b := range entries {
			holdCompare(t, keys, a, b, 0)
		}
	}
}

func holdSorted(t *testing.T, v *View, q api.Search, keys []api.SortKey, want []api.Found, result api.Result, errno api.Errno) {
	t.Helper()
	found, r, err := v.Sorted(q, keys)
	if toldFound(found) != toldFound(want) || r != result || err != errno {
		t.Fatalf("Sorted(%s, %+v) = %s, %+v, %d, want %s, %+v, %d", toldSearch(q), keys, toldFound(found), r, err, toldFound(want), result, errno)
	}
}

func holdPage(t *testing.T, v *View, q api.Search, keys []api.SortKey, size int, cookie string, want []api.Found, next string, result api.Result, errno api.Errno) {
	t.Helper()
	found, n, r, err := v.Page(q, keys, size, cookie)
	if toldFound(found) != toldFound(want) || n != next || r != result || err != errno {
		t.Fatalf("Page(%s, %+v, %d, %q) = %s, %q, %+v, %d, want %s, %q, %+v, %d", toldSearch(q), keys, size, cookie, toldFound(found), n, r, err, toldFound(want), next, result, errno)
	}
}

func holdPages(t *testing.T, v *View, q api.Search, keys []api.SortKey, size int, want [][]api.Found) {
	t.Helper()
	seq := v.Pages(q, keys, size)
	for range 2 {
		if got := slices.Collect(seq); toldPages(got) != toldPages(want) {
			t.Fatalf("Pages(%s, %+v, %d) gives %s, want %s", toldSearch(q), keys, size, toldPages(got), toldPages(want))
		}
	}
}

func toldPages(pages [][]api.Found) string {
	var out strings.Builder
	for _, p := range pages {
		out.WriteString(toldFound(p) + "|")
	}
	return out.String()
}

// holdAll holds all calls of a view against the slow answers.
func holdAll(t *testing.T, v *View, q api.Search, keys []api.SortKey, size int, cookie string) {
	t.Helper()
	w := slowSorted(v.store, q, keys)
	holdSorted(t, v, q, keys, w.found, w.result, w.err)
	page, next, result, err := w.page(size, cookie)
	holdPage(t, v, q, keys, size, cookie, page, next, result, err)
	holdPages(t, v, q, keys, size, w.pages(size))
}

// initials are the letters behind cn= (or o=) of what was found.
func initials(found []api.Found) string {
	out := ""
	for _, f := range found {
		_, value, _ := strings.Cut(f.Name, "=")
		out += value[:1]
	}
	return out
}
