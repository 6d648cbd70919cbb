package url

import (
	"testing"

	"roster/api"
)

func holdAsked(t *testing.T, u api.URL, want api.Search) {
	t.Helper()
	if q, err := Search(u); told(q) != told(want) || err != api.OK {
		t.Errorf("Search(%s) = %s, %d; want %s", told(u), told(q), err, told(want))
	}
	holdURL(t, u)
}

func holdFrom(t *testing.T, q api.Search, want api.URL, number api.Errno) {
	t.Helper()
	if u, err := From(q); told(u) != told(want) || err != number {
		t.Errorf("From(%s) = %s, %d; want %s, %d", told(q), told(u), err, told(want), number)
	}
	holdSearch(t, q)
}

func everyEntry() api.Filter { return one(node(api.Present, "objectClass", "")) }

// P18.5: the chapter's example, each scope, a filter of one's own; nothing but the four fields is set.
func TestSearch(t *testing.T) {
	holdAsked(t, api.URL{DN: "o=x"}, api.Search{Base: "o=x", Filter: everyEntry()})
	holdAsked(t, api.URL{}, api.Search{Filter: everyEntry()})
	holdAsked(t, api.URL{Filter: api.Filter{}}, api.Search{Filter: everyEntry()})
	for scope := range api.Scope(3) {
		holdAsked(t, api.URL{Scope: scope, HasScope: true}, api.Search{Scope: scope, Filter: everyEntry()})
	}
	f := api.Filter{{Depth: 1, Op: api.Not}, {Depth: 2, Op: api.Substrings, Desc: "cn", Parts: api.Pattern{Any: []string{"a", "b"}}}}
	holdAsked(t, api.URL{Host: "h", Port: 7, DN: " O=X ", Attributes: []string{"CN", "*", "CN"}, Filter: f, Extensions: []api.Extension{{Type: "x"}, {Type: "y", HasValue: true, Value: "v"}}},
		api.Search{Base: " O=X ", Filter: f, Attributes: []string{"CN", "*", "CN"}})
	holdAsked(t, api.URL{Filter: everyEntry()}, api.Search{Filter: everyEntry()})
}

// P18.5: a critical extension is refused, wherever it stands; what isn't made well ahead of it.
func TestSearchCritical(t *testing.T) {
	for _, u := range []api.URL{
		extended(critical("x")), extended(critical("x"), valued("y", "v")), extended(valued("y", "v"), critical("x")), extended(api.Extension{Critical: true, Type: "x", HasValue: true}),
	} {
		if q, err := Search(u); told(q) != "{}" || err != api.ErrExtension {
			t.Errorf("Search(%s) = %s, %d", told(u), told(q), err)
		}
		u.Scope = 1
		if q, err := Search(u); told(q) != "{}" || err != api.ErrURLMade {
			t.Errorf("Search(%s) = %s, %d", told(u), told(q), err)
		}
		holdURL(t, u)
	}
	if _, err := Search(extended(critical("x"), api.Extension{})); err != api.ErrURLMade {
		t.Errorf("an extension that is none behind a critical one: %d", err)
	}
}

// P18.6: the filter of everything, and those that are nearly it.
func TestFromFilter(t *testing.T) {
	holdFrom(t, api.Search{Filter: everyEntry()}, api.URL{}, api.OK)
	roomy := everyEntry()
	roomy[0].Parts.Any = []string{}
	holdFrom(t, api.Search{Filter: roomy}, api.URL{}, api.OK)
	for _, f := range []api.Filter{
		one(node(api.Present, "objectclass", "")), one(node(api.Present, "2.5.4.0", "")), one(node(api.Present, "cn", "")), one(node(api.Present, "objectClass;x", "")), one(node(api.Equality, "objectClass", "")), one(node(api.And, "", "")),
		{{Depth: 1, Op: api.And}, {Depth: 2, Op: api.Present, Desc: "objectClass"}}, {{Depth: 1, Op: api.Substrings, Desc: "cn", Parts: api.Pattern{Any: []string{"a"}}}},
	} {
		holdFrom(t, api.Search{Filter: f}, api.URL{Filter: f}, api.OK)
	}
	for _, f := range []api.Filter{
		nil, {}, one(node(api.Present, "", "")), one(node(api.Present, "c n", "")), {{Depth: 2, Op: api.Present, Desc: "objectClass"}}, {{Op: api.Present, Desc: "objectClass"}}, one(node(api.Present, "objectClass", "x")), {node(api.Present, "objectClass", ""), node(api.Present, "objectClass", "")},
		{{Depth: 1, Op: api.Present, Desc: "objectClass", DNAttrs: true}}, {{Depth: 1, Op: api.Present, Desc: "objectClass", Rule: "r"}}, {{Depth: 1, Op: api.Present, Desc: "objectClass", Parts: api.Pattern{Any: []string{""}}}},
	} {
		holdFrom(t, api.Search{Filter: f}, api.URL{}, api.ErrURLMade)
		holdFrom(t, api.Search{Base: "o=x", Scope: 1, Filter: f}, api.URL{}, api.ErrURLMade)
	}
}

// P18.6: each scope, the base, the attributes; what else stands in the search makes no difference.
func TestFrom(t *testing.T) {
	f := one(node(api.Equality, "cn", "a"))
	for scope := range api.Scope(3) {
		want := api.URL{DN: "o=x", Attributes: []string{"cn", "*"}, Scope: scope, HasScope: scope > 0, Filter: f}
		q := api.Search{Base: "o=x", Scope: scope, Filter: f, Attributes: []string{"cn", "*"}}
		holdFrom(t, q, want, api.OK)
		q.Deref, q.SizeLimit, q.TimeLimit, q.TypesOnly = -1, 9, 1<<40, true
		holdFrom(t, q, want, api.OK)
	}
	for _, scope := range []api.Scope{-1, 3, 7, 1 << 40, -1 << 63} {
		holdFrom(t, api.Search{Scope: scope, Filter: f}, api.URL{}, api.ErrURLMade)
		holdFrom(t, api.Search{Scope: scope, Filter: everyEntry()}, api.URL{}, api.ErrURLMade)
	}
	for _, q := range []api.Search{{}, {Base: "o", Filter: f}, {Base: "o=\xff", Filter: f}, {Attributes: []string{""}, Filter: f}, {Attributes: []string{"cn", "c n"}, Filter: everyEntry()}} {
		holdFrom(t, q, api.URL{}, api.ErrURLMade)
	}
}

// P18.5, P18.6: many searches, against the chapter told a second time; and Search of From is the search again.
func TestSearchByChance(t *testing.T) {
	m := newMaker(184)
	refused := 0
	for range 20000 {
		q := m.search()
		holdSearch(t, q)
		if _, err := From(q); err != api.OK {
			refused++
		}
	}
	if refused < 2000 || refused > 18000 {
		t.Errorf("%d searches without a URL", refused)
	}
}
