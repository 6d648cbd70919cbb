package view

import (
	"fmt"
	"slices"
	"strings"
	"testing"

	"roster/api"
	"roster/attr"
	"roster/match"
)

// P22.1: the chapter's examples.
func TestCheckExamples(t *testing.T) {
	for _, c := range []struct {
		keys   []api.SortKey
		err    api.Errno
		number int
	}{
		{nil, api.OK, 0},
		{[]api.SortKey{}, api.OK, 0},
		{by("cn"), api.OK, 0},
		{by("foo"), api.ErrSortKey, 0},
		{by("sn", "-surname"), api.ErrSortKey, 1},
		{by("mail"), api.ErrSortRule, 0},
		{by("cn:caseExactOrderingMatch", "sn:caseExactMatch"), api.ErrSortRule, 1},
		{by("uidNumber:2.5.13.3"), api.ErrSortRule, 0},
		{by("c n"), api.ErrSortKey, 0},
	} {
		holdNoOrUsed(t, c.keys, c.err, c.number)
	}
}

// holdNoOrUsed holds Check, and that the other calls go by it.
func holdNoOrUsed(t *testing.T, keys []api.SortKey, err api.Errno, number int) {
	t.Helper()
	holdCheck(t, keys, err, number)
	if _, e, n := Order(keys, five(t)); e != err || n != number {
		t.Fatalf("Order(%+v) = %d, %d, want %d, %d", keys, e, n, err, number)
	}
	v := fiveView(t)
	if _, _, e := v.Sorted(whole(), keys); e != err {
		t.Fatalf("Sorted by %+v = %d, want %d", keys, e, err)
	}
	if _, _, _, e := v.Page(whole(), keys, 1, ""); e != err {
		t.Fatalf("Page by %+v = %d, want %d", keys, e, err)
	}
	pages := len(slices.Collect(v.Pages(whole(), keys, 1)))
	if err != api.OK && pages != 0 || err == api.OK && pages != 5 {
		t.Fatalf("Pages by %+v gives %d pages", keys, pages)
	}
}

// eight are keys as many as can be used.
func eight() []api.SortKey {
	return by("cn", "-sn", "uidNumber", "createTimestamp", "name:2.5.13.6", "cn;lang-de", "userPassword", "x121Address")
}

// P22.1: eight keys can be used, the ninth can't, whatever it is; of several the first is told.
func TestManyKeys(t *testing.T) {
	for many := range 9 {
		holdNoOrUsed(t, eight()[:many], api.OK, 0)
	}
	for _, ninth := range by("ou", "foo", "mail", "cn", "ou:nope", "c n", "") {
		holdNoOrUsed(t, append(eight(), ninth), api.ErrSortKey, 8)
		holdNoOrUsed(t, append(eight(), ninth, ninth), api.ErrSortKey, 8)
		holdNoOrUsed(t, append(append(eight(), ninth), eight()...), api.ErrSortKey, 8)
	}
	long := slices.Repeat(by("mail"), 100)
	for i := range long {
		long[i].Desc = fmt.Sprintf("ou;x-%d", i)
	}
	holdNoOrUsed(t, long, api.ErrSortKey, 8)
	for place := range 8 {
		for _, c := range []struct {
			key api.SortKey
			err api.Errno
		}{{api.SortKey{Desc: "foo"}, api.ErrSortKey}, {api.SortKey{Desc: "mail"}, api.ErrSortRule}, {api.SortKey{Desc: "ou", Rule: "x"}, api.ErrSortRule}} {
			keys := slices.Clone(long)
			keys[place] = c.key
			holdNoOrUsed(t, keys, c.err, place)
			keys[min(place+1, 7)] = api.SortKey{}
			keys[place] = c.key
			holdNoOrUsed(t, keys, c.err, place)
		}
	}
}

// P22.1: where one key has two errors, that of its description is told ahead of that of its rule.
func TestKeyAheadOfRule(t *testing.T) {
	holdNoOrUsed(t, by("foo:nope"), api.ErrSortKey, 0)
	holdNoOrUsed(t, by("c n:2.5.13.3"), api.ErrSortKey, 0)
	holdNoOrUsed(t, by("cn", "CN:nope"), api.ErrSortKey, 1)
	holdNoOrUsed(t, by("mail", "mail"), api.ErrSortRule, 0)
	holdNoOrUsed(t, by("mail", "foo"), api.ErrSortRule, 0)
	holdNoOrUsed(t, by("foo", "mail"), api.ErrSortKey, 0)
}

// P22.1: what is no description, and what is of no known type, can't be used, with a rule or without.
func TestNoDescriptions(t *testing.T) {
	for _, desc := range []string{"", " ", "c n", "cn ", " cn", "cn;", ";x", "cn;;x", "cn;x;", "cn;x y", "-cn", "1", "2.5.4.", "2..5", "02.5.4.3", "cn_", "c\xc3\xb6", "\xff", "cn\x00", "*", "+", "1.1", "foo", "foo;x", "x-odd", "2.5.4.999", "2.5.4", "cn=", "cname"} {
		for _, rule := range []string{"", "2.5.13.3", "caseIgnoreOrderingMatch", "nope"} {
			for _, reverse := range []bool{false, true} {
				key := api.SortKey{Desc: desc, Rule: rule, Reverse: reverse}
				holdCheck(t, []api.SortKey{key}, api.ErrSortKey, 0)
				holdCheck(t, append(by("sn"), key), api.ErrSortKey, 1)
			}
		}
	}
}

// P22.1: the same description a second time can't be used, however it is written; with other options it is another one, and so is a sub type.
func TestSameDescription(t *testing.T) {
	for _, c := range []struct{ one, other string }{
		{"cn", "cn"}, {"cn", "CN"}, {"cn", "commonName"}, {"cn", "COMMONNAME"}, {"cn", "2.5.4.3"}, {"2.5.4.3", "Cn"}, {"sn", "surname"}, {"cn;a", "CN;A"}, {"cn;a;b", "commonName;B;a"}, {"cn;a", "cn;a;A;a"}, {"uid", "userid"}, {"uidNumber", "1.3.6.1.1.1.1.0"},
	} {
		for _, rule := range []string{"", ":nope"} {
			for _, reverse := range []string{"", "-"} {
				holdCheck(t, by(c.one, reverse+c.other+rule), api.ErrSortKey, 1)
				holdCheck(t, by(reverse+c.other, c.one+rule), api.ErrSortKey, 1)
				holdCheck(t, by(c.one, "ou", "st", reverse+c.other+rule), api.ErrSortKey, 3)
				holdCheck(t, by("ou", c.one, "st", reverse+c.other+rule), api.ErrSortKey, 3)
			}
		}
	}
	holdCheck(t, by("cn", "cn:2.5.13.6"), api.ErrSortKey, 1)
	for _, c := range []struct{ one, other string }{
		{"cn", "cn;x"}, {"cn;x", "cn"}, {"cn;x", "cn;y"}, {"cn;x", "cn;x;y"}, {"cn", "name"}, {"name", "cn"}, {"l", "c-l"}, {"cn", "sn"}, {"uidNumber", "gidNumber"},
	} {
		holdNoOrUsed(t, by(c.one, c.other), api.OK, 0)
	}
}

// P22.1: of all types of the table those whose syntax has an order can be used without a rule, by every name, with options or without.
func TestEachType(t *testing.T) {
	ordered := []api.Syntax{api.SynText, api.SynExact, api.SynNumeric, api.SynInteger, api.SynOctet, api.SynTime}
	seen := map[api.Syntax]int{}
	for _, row := range attr.Types() {
		seen[row.Syntax]++
		want := api.ErrSortRule
		if slices.Contains(ordered, row.Syntax) {
			want = api.OK
		}
		for _, name := range append([]string{row.Name, strings.ToUpper(row.Name), row.OID}, row.Aliases...) {
			for _, options := range []string{"", ";lang-de", ";X;y"} {
				holdCheck(t, by(name+options), want, 0)
				holdCheck(t, by("-"+name+options), want, 0)
			}
		}
	}
	if len(seen) != 14 {
		t.Errorf("the table has the syntaxes %v", seen)
	}
}

// P22.1: each rule, by its name in any case and by its identifier, on each type: the six that order, where they suit.
func TestEachRule(t *testing.T) {
	names := []string{"caseIgnoreMatch", "caseExactMatch", "caseIgnoreIA5Match", "caseExactIA5Match", "numericStringMatch", "telephoneNumberMatch", "integerMatch", "booleanMatch", "octetStringMatch", "distinguishedNameMatch", "objectIdentifierMatch", "generalizedTimeMatch", "caseIgnoreOrderingMatch", "caseExactOrderingMatch", "numericStringOrderingMatch", "integerOrderingMatch", "octetStringOrderingMatch", "generalizedTimeOrderingMatch", "integerBitAndMatch", "integerBitOrMatch", "nameSubtreeMatch", "caseIgnoreListMatch", "bitStringMatch", "caseIgnoreSubstringsMatch", "caseExactSubstringsMatch", "caseIgnoreIA5SubstringsMatch", "numericStringSubstringsMatch", "telephoneNumberSubstringsMatch", "octetStringSubstringsMatch", "wordMatch"}
	ids := []string{"2.5.13.2", "2.5.13.5", "1.3.6.1.4.1.1466.109.114.2", "1.3.6.1.4.1.1466.109.114.1", "2.5.13.8", "2.5.13.20", "2.5.13.14", "2.5.13.13", "2.5.13.17", "2.5.13.1", "2.5.13.0", "2.5.13.27", "2.5.13.3", "2.5.13.6", "2.5.13.9", "2.5.13.15", "2.5.13.18", "2.5.13.28", "1.2.840.113556.1.4.803", "1.2.840.113556.1.4.804", "1.3.6.1.4.1.32473.1.1", "2.5.13.11", "2.5.13.16", "2.5.13.4", "2.5.13.7", "1.3.6.1.4.1.1466.109.114.3", "2.5.13.10", "2.5.13.21", "2.5.13.19", "2.5.13.32"}
	suiting := map[int][]api.Syntax{
		13: {api.SynText, api.SynExact}, 14: {api.SynText, api.SynExact}, 15: {api.SynNumeric}, 16: {api.SynInteger}, 17: {api.SynOctet}, 18: {api.SynTime},
	}
	for i, name := range names {
		if r, _ := match.RuleOf(name); r != api.Rule(i+1) {
			t.Fatalf("%s is the rule %d", name, r)
		}
		for _, row := range attr.Types() {
			want := api.ErrSortRule
			if slices.Contains(suiting[i+1], row.Syntax) {
				want = api.OK
			}
			for _, rule := range []string{name, strings.ToLower(name), strings.ToUpper(name), ids[i]} {
				holdCheck(t, []api.SortKey{{Desc: row.Name, Rule: rule}}, want, 0)
				holdCheck(t, []api.SortKey{{Desc: row.Name + ";x", Rule: rule, Reverse: true}}, want, 0)
			}
		}
	}
}

// P22.1: what is no rule's name or identifier.
func TestNoRules(t *testing.T) {
	for _, rule := range []string{" ", "nope", "2.5.13", "2.5.13.", "2.5.13.03", " 2.5.13.3", "2.5.13.3 ", "caseIgnoreOrderingMatch ", " caseIgnoreOrderingMatch", "caseIgnoreOrdering", "2.5.13.999", "cn", "\xff", "\x00", "13", ";"} {
		for _, desc := range []string{"cn", "uidNumber", "mail", "labeledURI", "cn;x"} {
			holdCheck(t, []api.SortKey{{Desc: desc, Rule: rule}}, api.ErrSortRule, 0)
		}
		holdCheck(t, []api.SortKey{{Desc: "foo", Rule: rule}}, api.ErrSortKey, 0)
	}
}

// P22.1: all lists of up to three keys of a few, and lists by chance, told a second time.
func TestManyLists(t *testing.T) {
	few := append(by("cn", "-commonName", "cn;x", "foo", "mail", "uidNumber:2.5.13.15", "-sn:2.5.13.6", "sn:caseExactMatch", "sn"), api.SortKey{})
	for _, a := range few {
		for _, b := range few {
			for _, c := range few {
				for _, keys := range [][]api.SortKey{{a}, {a, b}, {a, b, c}} {
					err, number := slowCheck(keys)
					holdCheck(t, keys, err, number)
				}
			}
		}
	}
	m := newMaker(221)
	used := 0
	for range 5000 {
		keys := m.keys(12)
		err, number := slowCheck(keys)
		holdCheck(t, keys, err, number)
		if err == api.OK && len(keys) > 2 {
			used++
		}
	}
	if used < 100 {
		t.Errorf("only %d lists of three or more could be used", used)
	}
}
