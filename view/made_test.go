package view

import (
	"fmt"
	"math/rand"
	"slices"
	"strconv"
	"testing"

	"roster/api"
	"roster/attr"
	"roster/dit"
)

func pick[E any](r *rand.Rand, from []E) E { return from[r.Intn(len(from))] }

// sample is what a description has: descriptions that are covered, and values, alike and not, of the syntax and not.
type sample struct {
	desc    string
	covered []string
	values  []string
}

func samples() []sample {
	return []sample{
		{"cn", []string{"cn", "cn;lang-de", "cn;x;y"}, []string{"Ann", " aNN ", "Bo", "b", "", "\xff", "Zed", "\xc3\xa9"}},
		{"name", []string{"cn", "sn", "givenname;x", "name", "c-l"}, []string{"ann", "Bo  Lee", "bo lee", "bo", "   ", ""}},
		{"SN;lang-de", []string{"sn;lang-de", "sn;a;lang-de"}, []string{"Lee", "LEE", "a", "z"}},
		{"labeledURI", []string{"labeleduri"}, []string{"Ann", "ann", " Ann ", "Bo", "\xff"}},
		{"uidNumber", []string{"uidnumber", "uidnumber;x"}, []string{"7", "12", "-3", "0", "x", "007", "99999999999999999999", "-99999999999999999999", ""}},
		{"gidNumber;x", []string{"gidnumber;x"}, []string{"1", "2", "10"}},
		{"x121Address", []string{"x121address"}, []string{"1 2", "12", "2", "110", " ", "a"}},
		{"userPassword", []string{"userpassword"}, []string{"a", "A", "\xff", "", "b"}},
		{"createTimestamp", []string{"createtimestamp"}, []string{"2024010112Z", "202401011300+01", "20240101120000.5Z", "2023123123-01", "2024", "1999123123Z"}},
		{"mail", []string{"mail"}, []string{"a", "b"}},
	}
}

// maker makes entries, keys and searches by chance.
type maker struct {
	*rand.Rand
	samples []sample
}

func newMaker(seed int64) *maker {
	return &maker{rand.New(rand.NewSource(seed)), samples()}
}

// attrs are attributes in which a Canon may stand twice, be none, or have no value.
func (m *maker) attrs() []api.Attr {
	var out []api.Attr
	for range m.Intn(7) {
		one := pick(m.Rand, m.samples)
		a := api.Attr{Desc: "as written", Canon: pick(m.Rand, one.covered)}
		switch m.Intn(20) {
		case 0:
			a.Canon = pick(m.Rand, []string{"", "cn;", "CN", "commonName", "x-odd", "\xff", "Uidnumber"})
		case 1:
			a.Canon = "mail"
		}
		for range m.Intn(4) {
			a.Values = append(a.Values, pick(m.Rand, one.values))
		}
		out = append(out, a)
	}
	return out
}

// entries are a tree's list of entries with keys of one to four parts, the parts such that their order is not that of the list.
func (m *maker) entries(count int) []api.Entry {
	out := []api.Entry{{Name: "o=X", Key: []string{"o=x"}, Attrs: m.attrs()}}
	for i := range count {
		above := pick(m.Rand, out)
		part := fmt.Sprintf("cn=%d", (i*37+11)%101)
		if len(above.Key) == 4 {
			above = out[0]
		}
		out = append(out, api.Entry{Line: i, Name: part + "," + above.Name, Key: append(slices.Clone(above.Key), part), Attrs: m.attrs()})
	}
	return out
}

// key is one that can be used for the most part.
func (m *maker) key() api.SortKey {
	k := api.SortKey{Desc: pick(m.Rand, m.samples[:9]).desc, Reverse: m.Intn(2) == 0}
	switch s := attr.Syntax(k.Desc); m.Intn(3) {
	case 0:
		var suiting []string
		for _, r := range orderingRules() {
			if slices.Contains(r.suits, s) {
				suiting = append(suiting, r.id, r.name)
			}
		}
		k.Rule = pick(m.Rand, suiting)
	}
	switch m.Intn(40) {
	case 0:
		k.Rule = pick(m.Rand, []string{"nope", "2.5.13.2", "2.5.13.15", "caseIgnoreOrderingMatch"})
	case 1:
		k.Desc = pick(m.Rand, []string{"foo", "c n", "", "mail", "telephoneNumber"})
	}
	return k
}

// keys are as many as that or less; there are not often doubles.
func (m *maker) keys(most int) []api.SortKey {
	var out []api.SortKey
	for range m.Intn(most + 1) {
		k := m.key()
		canon, _, _ := attr.Canonical(k.Desc)
		double := slices.ContainsFunc(out, func(other api.SortKey) bool {
			c, _, _ := attr.Canonical(other.Desc)
			return c == canon
		})
		if !double || m.Intn(20) == 0 {
			out = append(out, k)
		}
	}
	return out
}

// soundKeys can be used.
func (m *maker) soundKeys(most int) []api.SortKey {
	for {
		keys := m.keys(most)
		if err, _ := slowCheck(keys); err == api.OK {
			return keys
		}
	}
}

// search is one that finds something for the most part.
func (m *maker) search(tree *dit.Tree) api.Search {
	q := api.Search{
		Base:       tree.Entry(m.Intn(tree.Len())).Name,
		Scope:      pick(m.Rand, []api.Scope{0, 1, 1, 2, 2, 2, 2, 3, -1}),
		Deref:      m.Intn(6) - 1,
		SizeLimit:  pick(m.Rand, []int{0, 0, 0, 1, 2, 3, 5, 8, -1}),
		TimeLimit:  m.Intn(3) - 1,
		TypesOnly:  m.Intn(4) == 0,
		Filter:     every(),
		Attributes: pick(m.Rand, [][]string{nil, {"*"}, {"+"}, {"1.1"}, {"cn"}, {"name", "uidNumber"}, {"*", "+"}, {"c n"}}),
	}
	if m.Intn(2) == 0 {
		q.Base = "O=x"
	}
	switch m.Intn(8) {
	case 0:
		q.Base = pick(m.Rand, []string{"", "o=y", "cn=nowhere,o=x", "no name", "cn=1,cn=nowhere,o=x"})
	case 1:
		q.Filter = pick(m.Rand, []api.Filter{nil, never(), {{Depth: 2, Op: api.And}}})
	case 2, 3:
		q.Filter = api.Filter{{Depth: 1, Op: api.Or}, {Depth: 2, Op: api.Present, Desc: pick(m.Rand, m.samples).desc}, {Depth: 2, Op: api.AtLeast, Desc: "uidNumber", Value: "7"}}
	}
	return q
}

func (m *maker) size() int { return pick(m.Rand, []int{1, 1, 2, 3, 4, 5, 7, 20, 1<<63 - 1, 0, -1}) }

func (m *maker) cookie(tree *dit.Tree) string {
	switch m.Intn(6) {
	case 0:
		return ""
	case 1:
		return pick(m.Rand, []string{"00", "-1", "+1", "x", " 1", "1 ", "1.0", "0x1", "1_0", "99999999999999999999", "-0", "\xff"})
	}
	return strconv.Itoa(m.Intn(tree.Len() + 1))
}

// P22.2, P22.3: entries and keys by chance, told a second time.
func TestManyOrders(t *testing.T) {
	m := newMaker(222)
	for range 200 {
		entries := m.entries(m.Intn(20))
		keys := m.keys(6)
		want, wantErr, wantNumber := slowOrder(keys, entries)
		got, err, number := Order(keys, entries)
		if !slices.Equal(got, want) || err != wantErr || number != wantNumber {
			t.Fatalf("Order(%+v, %+v) = %d, %d, %d, want %d, %d, %d", keys, entries, got, err, number, want, wantErr, wantNumber)
		}
		for range 20 {
			a, b := pick(m.Rand, entries), pick(m.Rand, entries)
			holdCompare(t, keys, a, b, slowCompare(keys, a, b))
		}
	}
}

// P22.5, P22.6, P22.7: searches, keys, sizes and cookies by chance, told a second time.
func TestManyViews(t *testing.T) {
	m := newMaker(223)
	for range 60 {
		tree := treeOf(t, m.entries(m.Intn(30)))
		v := New(tree)
		for range 40 {
			holdAll(t, v, m.search(tree), m.keys(4), m.size(), m.cookie(tree))
		}
	}
}

// P22.6: of searches by chance each cookie that there can be, and some that there can't.
func TestEachCookie(t *testing.T) {
	m := newMaker(224)
	went := 0
	for range 60 {
		tree := treeOf(t, m.entries(m.Intn(12)))
		v := New(tree)
		q, keys := m.search(tree), m.soundKeys(3)
		w := slowSorted(v.store, q, keys)
		for n := -2; n < tree.Len()+3; n++ {
			for _, size := range []int{1, 2, 5, 100} {
				cookie := strconv.Itoa(n)
				page, next, result, err := w.page(size, cookie)
				holdPage(t, v, q, keys, size, cookie, page, next, result, err)
				if len(page) > 0 {
					went++
				}
			}
		}
	}
	if went < 100 {
		t.Errorf("only %d cookies went on", went)
	}
}
