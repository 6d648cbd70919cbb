package view

import (
	"slices"
	"testing"

	"roster/api"
	"roster/search"
)

// P22.5: the chapter's examples, with what is told of each entry.
func TestSortedExamples(t *testing.T) {
	v := fiveView(t)
	number := func(name string, values ...string) api.Found {
		f := api.Found{Name: name}
		if len(values) > 0 {
			f.Attributes = []api.Attr{{Desc: "uidNumber", Values: values}}
		}
		return f
	}
	all := []api.Found{number("cn=c,o=x", "12"), number("cn=e,o=x"), number("cn=b,o=x", "7"), number("cn=d,o=x", "7", "x")}
	holdSorted(t, v, kids(0), by("sn"), all, api.Result{Code: api.Success}, api.OK)
	holdSorted(t, v, kids(2), by("sn"), all[:2], api.Result{Code: api.SizeLimitExceeded}, api.OK)
	q := kids(0)
	q.Base = "o=y"
	holdSorted(t, v, q, by("sn"), nil, api.Result{Code: api.NoSuchObject}, api.OK)
	holdSorted(t, v, kids(0), by("foo"), nil, api.Result{}, api.ErrSortKey)
}

// P22.5: keys of all kinds over the chapter's entries.
func TestSortedByKeys(t *testing.T) {
	v := fiveView(t)
	for _, c := range []struct {
		keys []api.SortKey
		want string
	}{
		{nil, "xbcde"}, {[]api.SortKey{}, "xbcde"}, {by("sn"), "cebxd"}, {by("-sn"), "xdbce"}, {by("uidNumber"), "bdcxe"}, {by("-uidNumber", "sn"), "excbd"}, {by("sn:2.5.13.6"), "ecbxd"}, {by("cn"), "bcdex"}, {by("-cn"), "xedcb"}, {by("name"), "cebdx"}, {by("title"), "xbcde"}, {by("-title"), "xbcde"}, {by("uidNumber", "-sn"), "dbcxe"}, {by("description"), "xbcde"}, {by("-description"), "bcdex"},
	} {
		found, result, err := v.Sorted(whole(), c.keys)
		if initials(found) != c.want || result != (api.Result{}) || err != api.OK {
			t.Errorf("Sorted by %+v = %s, %+v, %d, want %s", c.keys, initials(found), result, err, c.want)
		}
	}
}

// P22.5: a limit below 0, 0, below the number, at it and above it; the first of the order are told, not those of the lowest numbers.
func TestSortedLimits(t *testing.T) {
	v := fiveView(t)
	for _, c := range []struct {
		keys []api.SortKey
		all  string
	}{{by("sn"), "cebxd"}, {by("-sn"), "xdbce"}, {nil, "xbcde"}, {by("-cn"), "xedcb"}} {
		for _, limit := range []int{-1 << 63, -5, -1, 0, 1, 2, 3, 4, 5, 6, 100, 1<<63 - 1} {
			q := whole()
			q.SizeLimit = limit
			want, code := c.all, api.Success
			if limit > 0 && limit < 5 {
				want, code = c.all[:limit], api.SizeLimitExceeded
			}
			found, result, err := v.Sorted(q, c.keys)
			if initials(found) != want || result != (api.Result{Code: code}) || err != api.OK {
				t.Errorf("Sorted by %+v, limit %d = %s, %+v, %d, want %s, %d", c.keys, limit, initials(found), result, err, want, code)
			}
		}
	}
	one := whole()
	one.Scope, one.SizeLimit = api.BaseObject, 1
	if found, result, _ := v.Sorted(one, by("sn")); initials(found) != "x" || result != (api.Result{}) {
		t.Errorf("one of one: %s, %+v", initials(found), result)
	}
	one.Filter = never()
	if found, result, err := v.Sorted(one, by("sn")); len(found) != 0 || result != (api.Result{}) || err != api.OK {
		t.Errorf("none of one: %s, %+v, %d", initials(found), result, err)
	}
}

// twoLevels is a view in which entries stand beneath entries.
func twoLevels(t *testing.T) *View {
	t.Helper()
	return viewOf(t, []api.Entry{
		made(t, "O = X", "description: m"),
		made(t, "OU=b,O=x", "description: Z"),
		made(t, "ou=A,o=x", "description: k"),
		made(t, "cn=1, ou=b,o=x", "description: a"),
		made(t, "cn=2,ou=A,o=x", "description: zz"),
		made(t, "cn=1,ou=a,o=x", "description: b", "description: Q"),
	})
}

// P22.5: each scope of bases of each depth; names as the snapshot has them.
func TestSortedScopes(t *testing.T) {
	v := twoLevels(t)
	for _, c := range []struct {
		base  string
		scope api.Scope
		want  []string
	}{
		{"o=x", api.BaseObject, []string{"O = X"}},
		{"o=x", api.SingleLevel, []string{"ou=A,o=x", "OU=b,O=x"}},
		{"o=x", api.WholeSubtree, []string{"cn=1, ou=b,o=x", "cn=1,ou=a,o=x", "ou=A,o=x", "O = X", "OU=b,O=x", "cn=2,ou=A,o=x"}},
		{"OU=a, O=X", api.SingleLevel, []string{"cn=1,ou=a,o=x", "cn=2,ou=A,o=x"}},
		{"OU=a, O=X", api.WholeSubtree, []string{"cn=1,ou=a,o=x", "ou=A,o=x", "cn=2,ou=A,o=x"}},
		{"ou=b,o=x", api.WholeSubtree, []string{"cn=1, ou=b,o=x", "OU=b,O=x"}},
		{"cn=1,ou=b,o=x", api.SingleLevel, nil},
		{"cn=1,ou=b,o=x", api.WholeSubtree, []string{"cn=1, ou=b,o=x"}},
		{"o=x", 3, nil},
		{"o=x", -1, nil},
		{"o=x", 1 << 40, nil},
	} {
		q := api.Search{Base: c.base, Scope: c.scope, Filter: every(), Attributes: []string{"1.1"}}
		var want []api.Found
		for _, name := range c.want {
			want = append(want, api.Found{Name: name})
		}
		holdSorted(t, v, q, by("description"), want, api.Result{}, api.OK)
		holdPage(t, v, q, by("description"), 10, "", want, "", api.Result{}, api.OK)
		slices.Reverse(want)
		holdSorted(t, v, q, by("-description"), want, api.Result{}, api.OK)
	}
}

// P22.5, P22.6, P22.7: a base that is refused, whatever the keys, the limit, the cookie; keys that are refused are told ahead of it.
func TestRefusedBases(t *testing.T) {
	v := twoLevels(t)
	for base, result := range map[string]api.Result{
		"":                  {Code: api.NoSuchObject},
		"o=y":               {Code: api.NoSuchObject},
		"cn=1":              {Code: api.NoSuchObject},
		"ou=c,o=x":          {Code: api.NoSuchObject, Matched: "O = X"},
		"cn=9,ou=a,o=x":     {Code: api.NoSuchObject, Matched: "ou=A,o=x"},
		"cn=3,cn=2,ou=c":    {Code: api.NoSuchObject},
		"c=1,cn=1,ou=b,o=x": {Code: api.NoSuchObject, Matched: "cn=1, ou=b,o=x"},
		"x":                 {Code: api.InvalidName},
		" ":                 {Code: api.InvalidName},
		"o=x,":              {Code: api.InvalidName},
		"cn=\xff,o=x":       {Code: api.InvalidName},
	} {
		for _, scope := range []api.Scope{0, 1, 2, 7} {
			for _, limit := range []int{-1, 0, 1} {
				q := api.Search{Base: base, Scope: scope, SizeLimit: limit, Filter: every()}
				for _, keys := range [][]api.SortKey{nil, by("sn"), by("-description", "cn")} {
					holdSorted(t, v, q, keys, nil, result, api.OK)
					for _, cookie := range []string{"", "0", "1", "99", "x", "01"} {
						holdPage(t, v, q, keys, 1, cookie, nil, "", result, api.OK)
					}
					holdPage(t, v, q, keys, 0, "", nil, "", api.Result{}, api.ErrPageSize)
					holdPages(t, v, q, keys, 1, nil)
				}
				holdSorted(t, v, q, by("foo"), nil, api.Result{}, api.ErrSortKey)
				holdSorted(t, v, q, by("cn", "mail"), nil, api.Result{}, api.ErrSortRule)
				holdPage(t, v, q, by("foo"), 1, "", nil, "", api.Result{}, api.ErrSortKey)
				holdPages(t, v, q, by("foo"), 1, nil)
			}
		}
	}
}

// P22.5: what is told of an entry is what Search tells: what is asked for, types only or with values; what is sorted by need not be.
func TestSortedAttributes(t *testing.T) {
	v := fiveView(t)
	store := search.New(v.store.Tree())
	for _, wanted := range [][]string{nil, {"*"}, {"+"}, {"1.1"}, {"sn"}, {"NAME"}, {"cn", "sn", "uidNumber"}, {"c n"}, {"uidNumber;x"}, {"*", "+", "1.1"}} {
		for _, typesOnly := range []bool{false, true} {
			q := whole()
			q.Attributes, q.TypesOnly = wanted, typesOnly
			all, _ := store.Search(q)
			want := []api.Found{all[2], all[4], all[1], all[0], all[3]}
			holdSorted(t, v, q, by("sn"), want, api.Result{}, api.OK)
			holdPage(t, v, q, by("sn"), 2, "4", want[2:4], "0", api.Result{}, api.OK)
			holdPages(t, v, q, by("sn"), 3, [][]api.Found{want[:3], want[3:]})
		}
	}
}

// P22.5: of those that are alike the one with the lower number comes first, in whatever order the entries came.
func TestAlikeByNumber(t *testing.T) {
	f := five(t)
	for _, p := range permutations(4) {
		list := []api.Entry{f[0]}
		for _, i := range p {
			list = append(list, f[i+1])
		}
		v := viewOf(t, list)
		for keys, want := range map[string]string{"sn": "cebxd", "-sn": "xdbce", "uidNumber": "bdcxe", "title": "xbcde", "-title": "xbcde"} {
			if found, _, _ := v.Sorted(whole(), by(keys)); initials(found) != want {
				t.Fatalf("by %s: %s, want %s", keys, initials(found), want)
			}
		}
	}
}

// P22.5: filters that mean some, all, none, and lists that are no filter.
func TestSortedFilters(t *testing.T) {
	v := fiveView(t)
	for s, want := range map[string]string{"(&)": "cebxd", "(|)": "", "(sn=*)": "ceb", "(!(sn=*))": "xd", "(sn=adam)": "ce", "(uidNumber>=8)": "c", "(foo=x)": "", "(!(foo=x))": "", "(|(cn=d)(cn=b))": "bd"} {
		q := whole()
		q.Filter = parsed(t, s)
		found, result, err := v.Sorted(q, by("sn"))
		if initials(found) != want || result != (api.Result{}) || err != api.OK {
			t.Errorf("%s: %s, %+v, %d, want %s", s, initials(found), result, err, want)
		}
	}
	for _, f := range []api.Filter{nil, {}, {{Depth: 2, Op: api.And}}, {{Depth: 1, Op: 17}}, {{Depth: 1, Op: api.Not}}} {
		q := whole()
		q.Filter = f
		holdSorted(t, v, q, by("sn"), nil, api.Result{}, api.OK)
		holdPage(t, v, q, by("sn"), 1, "", nil, "", api.Result{}, api.OK)
		holdPage(t, v, q, by("sn"), 1, "0", nil, "", api.Result{}, api.ErrCookie)
		holdPages(t, v, q, by("sn"), 1, nil)
	}
}

// P22.4: each view tells its own tree; its entries and numbers are the tree's.
func TestOwnTree(t *testing.T) {
	one, other := treeOf(t, five(t)), treeOf(t, []api.Entry{made(t, "o=y"), made(t, "cn=q,o=y")})
	v, u := New(one), New(other)
	holdSorted(t, u, whole(), by("sn"), nil, api.Result{Code: api.NoSuchObject}, api.OK)
	if found, _, _ := v.Sorted(whole(), by("sn")); initials(found) != "cebxd" {
		t.Errorf("Sorted = %s", initials(found))
	}
	if found, _, _ := u.Sorted(api.Search{Base: "o=y", Scope: api.WholeSubtree, Filter: every()}, by("cn")); initials(found) != "qy" {
		t.Errorf("Sorted = %s", initials(found))
	}
	for n := range one.Len() {
		for size := 1; size < 6; size++ {
			_, next, _, err := v.Page(whole(), nil, size, cookieOf(n))
			want := ""
			if n+size < 4 {
				want = cookieOf(n + size)
			}
			if n == 4 && err != api.ErrCookie || n < 4 && (err != api.OK || next != want) {
				t.Errorf("behind %d: %q, %d", n, next, err)
			}
		}
	}
}

// What follows: without keys Sorted is Search; with keys, where no limit cuts, it tells the same entries in another order.
func TestSortedIsSearch(t *testing.T) {
	m := newMaker(227)
	moved := 0
	for range 60 {
		tree := treeOf(t, m.entries(m.Intn(30)))
		v, store := New(tree), search.New(tree)
		for range 20 {
			q := m.search(tree)
			found, result := store.Search(q)
			holdSorted(t, v, q, nil, found, result, api.OK)
			keys := m.soundKeys(3)
			for _, limit := range []int{0, -7, len(found), len(found) + 1} {
				q.SizeLimit = 0
				all, result := store.Search(q)
				q.SizeLimit = limit
				if limit > 0 && limit < len(all) {
					continue
				}
				got, sortedResult, err := v.Sorted(q, keys)
				if result != sortedResult || err != api.OK || len(got) != len(all) {
					t.Fatalf("%d entries, %+v, %d; Search tells %d, %+v", len(got), sortedResult, err, len(all), result)
				}
				if toldFound(got) != toldFound(all) {
					moved++
				}
				one, other := texts(got), texts(all)
				if !slices.Equal(one, other) {
					t.Fatalf("%q, Search tells %q", one, other)
				}
			}
		}
	}
	if moved < 100 {
		t.Errorf("only %d answers were in another order", moved)
	}
}

// texts tells each entry that was found, sorted by what is told.
func texts(found []api.Found) []string {
	var out []string
	for _, f := range found {
		out = append(out, toldFound([]api.Found{f}))
	}
	slices.Sort(out)
	return out
}

// What follows: with a limit those are told that are first in the order of all.
func TestLimitCutsTheOrder(t *testing.T) {
	m := newMaker(228)
	for range 60 {
		tree := treeOf(t, m.entries(m.Intn(20)))
		v := New(tree)
		q, keys := m.search(tree), m.soundKeys(3)
		q.SizeLimit = 0
		all, result, _ := v.Sorted(q, keys)
		for limit := 1; limit < len(all)+3; limit++ {
			q.SizeLimit = limit
			want, code := all, result
			if limit < len(all) {
				want, code = all[:limit], api.Result{Code: 4}
			}
			holdSorted(t, v, q, keys, want, code, api.OK)
		}
	}
}
