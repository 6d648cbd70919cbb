package view

import (
	"slices"
	"strings"
	"testing"

	"roster/api"
)

// P22.3: the chapter's examples.
func TestOrderExamples(t *testing.T) {
	for _, c := range []struct {
		keys []api.SortKey
		want []int
	}{
		{by("sn"), []int{2, 4, 1, 0, 3}},
		{by("-sn"), []int{0, 3, 1, 2, 4}},
		{by("uidNumber"), []int{1, 3, 2, 0, 4}},
		{by("-uidNumber", "sn"), []int{4, 0, 2, 1, 3}},
		{by("sn:2.5.13.6"), []int{4, 2, 1, 0, 3}},
		{nil, []int{0, 1, 2, 3, 4}},
		{[]api.SortKey{}, []int{0, 1, 2, 3, 4}},
	} {
		holdOrder(t, c.keys, five(t), c.want...)
	}
}

// P22.2: the same entries, two by two.
func TestCompareExamples(t *testing.T) {
	f := five(t)
	for _, c := range []struct {
		keys []api.SortKey
		a, b int
		want int
	}{
		{by("sn"), 2, 4, 0}, {by("sn"), 2, 1, -1}, {by("sn"), 1, 0, -1}, {by("sn"), 0, 3, 0},
		{by("-sn"), 2, 4, 0}, {by("-sn"), 2, 1, 1}, {by("-sn"), 1, 0, 1}, {by("-sn"), 0, 3, 0},
		{by("uidNumber"), 1, 3, 0}, {by("uidNumber"), 1, 2, -1}, {by("uidNumber", "sn"), 1, 3, -1}, {by("uidNumber", "-sn"), 1, 3, 1},
		{by("-uidNumber", "sn"), 4, 0, -1}, {by("sn:2.5.13.6"), 4, 2, -1}, {by("sn:2.5.13.6"), 2, 1, -1},
		{nil, 1, 2, 0}, {by("foo"), 1, 2, 0}, {by("mail"), 1, 2, 0}, {by("sn", "surname"), 1, 2, 0}, {by("sn", "foo"), 1, 2, 0}, {by("uidNumber:2.5.13.3"), 1, 2, 0},
	} {
		holdCompare(t, c.keys, f[c.a], f[c.b], c.want)
		holdCompare(t, c.keys, f[c.b], f[c.a], -c.want)
		holdCompare(t, c.keys, f[c.a], f[c.a], 0)
	}
}

// P22.2, P22.3: keys that Check refuses order nothing, wherever the first that can't be used stands.
func TestRefusedKeys(t *testing.T) {
	for _, c := range []struct {
		keys []api.SortKey
		err  api.Errno
		at   int
	}{
		{by("foo"), api.ErrSortKey, 0}, {by("sn", "foo"), api.ErrSortKey, 1}, {by("sn", "mail"), api.ErrSortRule, 1}, {by("sn", "uidNumber", "surname"), api.ErrSortKey, 2}, {append(eight(), by("ou")...), api.ErrSortKey, 8}, {by("sn:caseIgnoreMatch"), api.ErrSortRule, 0},
	} {
		holdNoOrder(t, c.keys, five(t), c.err, c.at)
		holdNoOrder(t, c.keys, nil, c.err, c.at)
	}
}

// P22.3: no entries at all.
func TestOrderOfNothing(t *testing.T) {
	for _, keys := range [][]api.SortKey{nil, by("sn"), eight()} {
		holdOrder(t, keys, nil)
		holdOrder(t, keys, []api.Entry{})
		holdOrder(t, keys, make([]api.Entry, 3), 0, 1, 2)
		holdOrder(t, turned(keys), make([]api.Entry, 1), 0)
	}
}

// rising are, for each key, values of the one description in its order: those of one text list are alike.
type rising struct {
	key   string
	canon string
	lists [][]string
	none  []string // not of the syntax
}

func risings() []rising {
	long := strings.Repeat("9", 400)
	text := [][]string{{" ", "\t\n ", "  "}, {"1"}, {"A", "a", " a\t"}, {"A  B", "a b", " a\nB "}, {"aa"}, {"Z", "z"}, {"[", " [ "}, {"\xc3\x89"}, {"\xc3\xa9"}}
	// [ is 91, ahead of the small letters, which are what folding leaves.
	folded := [][]string{text[0], text[1], text[6], text[2], text[3], text[4], text[5], text[7], text[8]}
	exact := [][]string{{" ", "\t"}, {"1"}, {"A", " A "}, {"A  B", "A\tB"}, {"Z"}, {"["}, {"a"}, {"a b", " a  b"}, {"aa"}, {"\xc3\x89"}, {"\xc3\xa9"}}
	noText := []string{"", "\xff", "a\xc3", "\xed\xa0\x80"}
	integers := [][]string{{"-1" + long}, {"-" + long}, {"-10"}, {"-9"}, {"-1"}, {"0"}, {"1"}, {"9"}, {"10"}, {"11"}, {"100"}, {"9223372036854775807"}, {"9223372036854775808"}, {"18446744073709551616"}, {long}, {"1" + long}}
	noIntegers := []string{"", "x", "-0", "007", "+1", " 1", "1 ", "-", "1.0"}
	numerics := [][]string{{" ", "   "}, {"0"}, {"00", "0 0"}, {"1", " 1 "}, {"10", "1 0"}, {"100"}, {"12", "1 2", "12 "}, {"2"}, {"9"}}
	octets := [][]string{{""}, {"\x00"}, {" "}, {"  "}, {"A"}, {"A "}, {"AA"}, {"a"}, {"\x80"}, {"\xff"}, {"\xff\x00"}}
	times := [][]string{{"0000010100Z"}, {"1999123123Z", "199912312300Z", "20000101000000+0100"}, {"2024010112Z", "202401011300+01", "20240101120000Z", "20240101120000.0Z", "20240101070000,000-05"}, {"20240101120000.05Z"}, {"20240101120000.5Z", "20240101120000,50Z"}, {"20240101120001Z"}, {"2024010113Z"}, {"9999123123Z"}}
	noTimes := []string{"", "2024", "2024010112", "20230229120000Z", "20240101120060Z", "000001010000+01"}
	return []rising{
		{"cn", "cn", folded, noText},
		{"sn:2.5.13.3", "sn", folded, noText},
		{"sn:2.5.13.6", "sn", exact, noText},
		{"labeledURI", "labeleduri", exact, noText},
		{"labeledURI:CASEEXACTORDERINGMATCH", "labeleduri", exact, noText},
		{"labeledURI:caseignoreorderingmatch", "labeleduri", folded, noText},
		{"uidNumber", "uidnumber", integers, noIntegers},
		{"uidNumber:integerOrderingMatch", "uidnumber", integers, noIntegers},
		{"x121Address", "x121address", numerics, []string{"", "a", "1-2", "1\t2"}},
		{"x121Address:2.5.13.9", "x121address", numerics, []string{"", "x"}},
		{"userPassword", "userpassword", octets, nil},
		{"userPassword:2.5.13.18", "userpassword", octets, nil},
		{"createTimestamp", "createtimestamp", times, noTimes},
		{"modifyTimestamp:2.5.13.28", "modifytimestamp", times, noTimes},
	}
}

// P22.2: each syntax's order, and each rule's: all values two by two, turned about too; what has none stands behind what has one.
func TestEachOrder(t *testing.T) {
	for _, r := range risings() {
		keys, back := by(r.key), by("-"+r.key)
		hold := func(a, b api.Entry, want int) {
			t.Helper()
			holdCompare(t, keys, a, b, want)
			holdCompare(t, keys, b, a, -want)
			holdCompare(t, back, a, b, -want)
			holdCompare(t, back, b, a, want)
		}
		var all []string
		for i, list := range r.lists {
			for _, value := range list {
				for j, other := range r.lists {
					want := 0
					if i != j {
						want = 1 - 2*b2i(i < j)
					}
					for _, o := range other {
						hold(valued(r.canon, value), valued(r.canon, o), want)
					}
				}
				hold(valued(r.canon, value), valued(r.canon), -1)
				hold(valued(r.canon, value), api.Entry{}, -1)
				all = append(all, value)
			}
		}
		// A value that isn't of the syntax counts for nothing, be it alone or beside others.
		for _, no := range r.none {
			hold(valued(r.canon, no), api.Entry{}, 0)
			hold(valued(r.canon, all[0]), valued(r.canon, no), -1)
			for _, value := range all {
				hold(valued(r.canon, no, value, no), valued(r.canon, value), 0)
			}
		}
	}
}

func b2i(b bool) int {
	if b {
		return 1
	}
	return 0
}

// P22.2: of several values the least counts, wherever it stands, turned about or not.
func TestLeastValue(t *testing.T) {
	for _, r := range risings() {
		keys, back := by(r.key), by("-"+r.key)
		for i := range r.lists {
			low := r.lists[i][0]
			rest := []string{}
			for _, list := range r.lists[i:] {
				rest = append(rest, list...)
			}
			rest = append(rest, r.none...)
			for at := range len(rest) + 1 {
				e := valued(r.canon, slices.Insert(slices.Clone(rest), at, low)...)
				holdCompare(t, keys, e, valued(r.canon, low), 0)
				holdCompare(t, back, e, valued(r.canon, low), 0)
			}
			backward := slices.Clone(rest)
			slices.Reverse(backward)
			holdCompare(t, keys, valued(r.canon, backward...), valued(r.canon, low), 0)
			if i > 0 {
				lower := valued(r.canon, r.lists[i-1][0])
				holdCompare(t, keys, valued(r.canon, backward...), lower, 1)
				holdCompare(t, back, valued(r.canon, backward...), lower, -1)
			}
		}
	}
}

// P22.2: what a description covers counts: other spellings, sub types, options; what it doesn't, doesn't.
func TestCoveredValues(t *testing.T) {
	low, mid := "a", "m"
	for _, c := range []struct {
		desc, canon string
		covered     bool
	}{
		{"cn", "cn", true}, {"commonName", "cn", true}, {"2.5.4.3", "cn", true}, {"CN", "cn;lang-de", true}, {"cn;lang-de", "cn", false}, {"cn;lang-de", "cn;lang-de", true}, {"cn;LANG-de", "cn;a;lang-de", true}, {"cn;lang-de", "cn;lang-en", false}, {"cn;a;b", "cn;a", false},
		{"name", "cn", true}, {"name", "sn;x", true}, {"name;x", "sn", false}, {"name", "c-l", true}, {"l", "c-l", true}, {"c-l", "l", false}, {"cn", "name", false}, {"cn", "sn", false}, {"name", "description", false},
		// What no Make made: Canons that are not canonical, or none.
		{"cn", "CommonName", true}, {"cn", "cn;", false}, {"cn", "", false}, {"cn", "c n", false}, {"cn", "x-odd", false},
	} {
		e := api.Entry{Attrs: []api.Attr{{Desc: "cn", Canon: c.canon, Values: []string{low}}}}
		keys := by(c.desc)
		if !c.covered {
			holdCompare(t, keys, e, api.Entry{}, 0)
			continue
		}
		holdCompare(t, keys, e, api.Entry{}, -1)
		other := "name"
		if strings.Contains(c.desc, ";") || c.desc != "name" {
			other = c.canon
		}
		two := api.Entry{Attrs: []api.Attr{{Canon: other, Values: []string{mid}}, {Canon: "description", Values: []string{""}}, {Canon: c.canon, Values: []string{"z", low}}}}
		holdCompare(t, keys, two, e, 0)
		holdCompare(t, keys, two, valued(c.canon, mid), -1)
	}
}

// P22.2: neither an entry's name nor its key, line or Descs count: the Canons alone.
func TestCanonsAlone(t *testing.T) {
	a := api.Entry{Line: 1, Name: "cn=a,o=x", Key: []string{"o=x", "cn=a"}, Attrs: []api.Attr{{Desc: "cn", Canon: "sn", Values: []string{"x"}}}}
	b := api.Entry{Line: 2, Name: "cn=b,o=x", Key: []string{"o=x", "cn=b"}, Attrs: []api.Attr{{Desc: "sn", Canon: "cn", Values: []string{"y"}}}}
	holdCompare(t, by("cn"), a, b, 1)
	holdCompare(t, by("sn"), a, b, -1)
	holdCompare(t, by("uidNumber"), a, b, 0)
	holdCompare(t, nil, a, b, 0)
	holdOrder(t, by("cn"), []api.Entry{a, b}, 1, 0)
}

// P22.2, P22.3: the first key by which two are not alike decides, each key turned about by itself.
func TestSeveralKeys(t *testing.T) {
	entry := func(cn, sn, number string) api.Entry {
		e := api.Entry{}
		for _, p := range [][2]string{{"cn", cn}, {"sn", sn}, {"uidnumber", number}} {
			if p[1] != "" {
				e.Attrs = append(e.Attrs, api.Attr{Canon: p[0], Values: []string{p[1]}})
			}
		}
		return e
	}
	list := []api.Entry{entry("b", "y", "2"), entry("a", "y", "10"), entry("a", "x", ""), entry("B", "", "2"), entry("", "x", "1"), entry("A", "Y", "9"), entry("b", "y", "2")}
	for _, c := range []struct {
		keys []api.SortKey
		want []int
	}{
		{by("cn", "sn", "uidNumber"), []int{2, 5, 1, 0, 6, 3, 4}},
		{by("cn", "sn", "-uidNumber"), []int{2, 1, 5, 0, 6, 3, 4}},
		{by("cn", "-sn", "uidNumber"), []int{5, 1, 2, 3, 0, 6, 4}},
		{by("-cn", "sn", "uidNumber"), []int{4, 0, 6, 3, 2, 5, 1}},
		{by("-cn", "-sn", "-uidNumber"), []int{4, 3, 0, 6, 1, 5, 2}},
		{by("uidNumber", "cn"), []int{4, 0, 3, 6, 5, 1, 2}},
		{by("-uidNumber", "-cn"), []int{2, 1, 5, 0, 3, 6, 4}},
		{by("sn:2.5.13.6", "cn"), []int{5, 2, 4, 1, 0, 6, 3}},
		{by("sn", "cn:2.5.13.6"), []int{2, 4, 5, 1, 0, 6, 3}},
		{by("cn"), []int{1, 2, 5, 0, 3, 6, 4}},
		{by("title", "cn"), []int{1, 2, 5, 0, 3, 6, 4}},
		{by("title"), []int{0, 1, 2, 3, 4, 5, 6}},
	} {
		holdOrder(t, c.keys, list, c.want...)
		for i, place := range c.want {
			for _, later := range c.want[i+1:] {
				if got := Compare(c.keys, list[place], list[later]); got > 0 || got == 0 && place > later {
					t.Errorf("Compare(%+v, %d, %d) = %d", c.keys, place, later, got)
				}
			}
		}
	}
}

// P22.2: all eight keys count, the last where all others are alike.
func TestEighthKey(t *testing.T) {
	keys := eight()
	canons := []string{"cn", "sn", "uidnumber", "createtimestamp", "name", "cn;lang-de", "userpassword", "x121address"}
	for i, canon := range canons {
		e := valued(canon, "7")
		switch canon {
		case "cn;lang-de":
			continue // cn covers it too
		case "createtimestamp":
			e = valued(canon, "2024010112Z")
		}
		want := -1
		if keys[i].Reverse {
			want = 1
		}
		holdCompare(t, keys, e, api.Entry{}, want)
	}
	// By cn, sn and name both are alike: only cn;lang-de tells them apart.
	a := api.Entry{Attrs: []api.Attr{{Canon: "cn", Values: []string{"a"}}, {Canon: "cn;lang-de", Values: []string{"b"}}}}
	b := api.Entry{Attrs: []api.Attr{{Canon: "cn", Values: []string{"a"}}, {Canon: "cn;lang-de", Values: []string{"c"}}}}
	holdCompare(t, keys, a, b, -1)
}

// permutations gives all orders of the numbers below n.
func permutations(n int) [][]int {
	if n == 0 {
		return [][]int{nil}
	}
	var out [][]int
	for _, p := range permutations(n - 1) {
		for at := range n {
			out = append(out, slices.Insert(slices.Clone(p), at, n-1))
		}
	}
	return out
}

// P22.3: whatever the order of the list, those that are not alike come in the same; those that are alike, by their places.
func TestOrderOfEachList(t *testing.T) {
	f := five(t)
	for _, c := range []struct {
		keys   []api.SortKey
		groups [][]int // those of one group are alike
	}{
		{nil, [][]int{{0, 1, 2, 3, 4}}},
		{by("title"), [][]int{{0, 1, 2, 3, 4}}},
		{by("sn"), [][]int{{2, 4}, {1}, {0, 3}}},
		{by("-sn"), [][]int{{0, 3}, {1}, {2, 4}}},
		{by("uidNumber"), [][]int{{1, 3}, {2}, {0, 4}}},
		{by("-uidNumber", "sn"), [][]int{{4}, {0}, {2}, {1}, {3}}},
		{by("description"), [][]int{{0}, {1, 2, 3, 4}}},
		{by("-description"), [][]int{{1, 2, 3, 4}, {0}}},
		{by("cn"), [][]int{{1}, {2}, {3}, {4}, {0}}},
	} {
		for _, p := range permutations(len(f)) {
			list := make([]api.Entry, len(f))
			for place, which := range p {
				list[place] = f[which]
			}
			var want []int
			for _, group := range c.groups {
				for place, which := range p {
					if slices.Contains(group, which) {
						want = append(want, place)
					}
				}
			}
			holdOrder(t, c.keys, list, want...)
		}
	}
}

// P22.3: long lists of entries that are alike stay as they are, and are not mixed by a sort that isn't stable.
func TestLongLists(t *testing.T) {
	const many = 3000
	list := make([]api.Entry, many)
	for i := range list {
		list[i] = valued("cn", string(rune('a'+i*7%5)))
	}
	for _, keys := range [][]api.SortKey{by("cn"), by("-cn"), by("title", "cn")} {
		got, err, _ := Order(keys, list)
		if err != api.OK || len(got) != many {
			t.Fatalf("Order = %d places, %d", len(got), err)
		}
		for i := range many - 1 {
			c := strings.Compare(list[got[i]].Attrs[0].Values[0], list[got[i+1]].Attrs[0].Values[0])
			if keys[0].Reverse {
				c = -c
			}
			if c > 0 || c == 0 && got[i] > got[i+1] {
				t.Fatalf("by %+v %d stands ahead of %d", keys, got[i], got[i+1])
			}
		}
	}
	same := slices.Repeat([]api.Entry{valued("cn", "a")}, many)
	got, _, _ := Order(by("cn"), same)
	for i, place := range got {
		if place != i {
			t.Fatalf("of entries that are alike %d comes %dth", place, i)
		}
	}
}

// What follows: Compare is a total order but for those that are alike: it goes through, and turned about it has the other sign; keys all turned about, too.
func TestTotalOrder(t *testing.T) {
	m := newMaker(225)
	for range 50 {
		entries := m.entries(6)
		keys := m.soundKeys(4)
		for _, a := range entries {
			holdCompare(t, keys, a, a, 0)
			for _, b := range entries {
				ab := Compare(keys, a, b)
				if ab < -1 || ab > 1 {
					t.Fatalf("Compare = %d", ab)
				}
				holdCompare(t, keys, b, a, -ab)
				holdCompare(t, turned(keys), a, b, -ab)
				for _, c := range entries {
					bc, ac := Compare(keys, b, c), Compare(keys, a, c)
					if ab <= 0 && bc <= 0 && (ac > 0 || ac == 0 && (ab < 0 || bc < 0)) {
						t.Fatalf("by %+v: %d and %d, but %d", keys, ab, bc, ac)
					}
				}
			}
		}
	}
}

// What follows: Order and Compare say the same.
func TestOrderIsWhatCompareSays(t *testing.T) {
	m := newMaker(226)
	for range 200 {
		entries := m.entries(m.Intn(20))
		keys := m.soundKeys(5)
		got, err, _ := Order(keys, entries)
		if err != api.OK {
			t.Fatalf("Order(%+v) = %d", keys, err)
		}
		for i := range len(got) - 1 {
			if c := Compare(keys, entries[got[i]], entries[got[i+1]]); c > 0 || c == 0 && got[i] > got[i+1] {
				t.Fatalf("by %+v %d stands ahead of %d, but Compare is %d", keys, got[i], got[i+1], c)
			}
		}
		rising := slices.Clone(got)
		slices.Sort(rising)
		for i, place := range rising {
			if place != i {
				t.Fatalf("Order = %d", got)
			}
		}
	}
}
