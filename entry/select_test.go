package entry

import (
	"math/rand"
	"slices"
	"testing"

	"roster/api"
	"roster/attr"
)

// P8.5: the chapter's examples.
func TestSelectOfTheExamples(t *testing.T) {
	e := made(t, ann())
	class, cn := at("objectClass", "", "person"), at("CN", "", "Ann", "Lee")
	for _, c := range []struct {
		wanted    []string
		typesOnly bool
		want      []api.Attr
	}{
		{[]string{"sn", "cn;lang-de", "CommonName"}, false, []api.Attr{cn}},
		{nil, true, []api.Attr{at("objectClass", ""), at("CN", "")}},
		{[]string{}, false, []api.Attr{class, cn}},
		{[]string{"1.1"}, false, nil},
		{[]string{"1.1", "*"}, false, []api.Attr{class, cn}},
	} {
		if got := Select(e, c.wanted, c.typesOnly); !sameAttrs(got, c.want) {
			t.Errorf("Select(.., %q, %v) = %#v, want %#v", c.wanted, c.typesOnly, got, c.want)
		}
	}
}

// mixed has attributes of the users and of the directory, known and not.
func mixed(t *testing.T) api.Entry {
	return made(t, record(1, "cn=Ann,o=x", "objectClass", "person", "createTimestamp", "20200101000000Z", "CN", "Ann", "sn;lang-en", "Lee", "hasSubordinates;x", "no", "x-odd;b", "1", "1.1", "2", "1.1;x", "3", "2.5.18.4", "o=x"))
}

// P8.5: wishes of every kind, alone and together, and texts that are no description.
func TestSelect(t *testing.T) {
	e := mixed(t)
	users, own, all := []int{0, 2, 3, 5, 6, 7}, []int{1, 4, 8}, []int{0, 1, 2, 3, 4, 5, 6, 7, 8}
	for _, c := range []struct {
		wanted []string
		places []int
	}{
		{nil, users},
		{[]string{"*"}, users},
		{[]string{"+"}, own},
		{[]string{"+", "*"}, all},
		{[]string{"*", "+", "*"}, all},
		{[]string{"1.1"}, nil},
		{[]string{"1.1", "1.1"}, nil},
		{[]string{"1.1", "+"}, own},
		{[]string{"*", "1.1", "+"}, all},
		{[]string{"1.1", "sn"}, []int{3}},
		{[]string{"1.1;x"}, []int{7}},
		{[]string{"1.1;X;x"}, []int{7}},
		{[]string{"1.1 "}, nil},
		{[]string{"name"}, []int{2, 3}},
		{[]string{"sn", "cn", "commonName", "CN"}, []int{2, 3}},
		{[]string{"createtimestamp"}, []int{1}},
		{[]string{"2.5.18.9", "X-ODD"}, []int{4, 5}},
		{[]string{"hasSubordinates"}, []int{4}},
		{[]string{"hasSubordinates;y"}, nil},
		{[]string{"*", "modifiersName"}, []int{0, 2, 3, 5, 6, 7, 8}},
		{[]string{"+", "objectClass"}, []int{0, 1, 4, 8}},
		{[]string{""}, nil},
		{[]string{"", "c n", "**", " *", "+ ", "cn;", "1", "\xff"}, nil},
		{[]string{"", "cn", "c n"}, []int{2}},
		{[]string{"mail", "x-other"}, nil},
	} {
		var want, bare []api.Attr
		for _, place := range c.places {
			want = append(want, at(e.Attrs[place].Desc, "", e.Attrs[place].Values...))
			bare = append(bare, at(e.Attrs[place].Desc, ""))
		}
		if got := Select(e, c.wanted, false); !sameAttrs(got, want) {
			t.Errorf("Select(.., %q, false) = %#v, want %#v", c.wanted, got, want)
		}
		if got := Select(e, c.wanted, true); !sameAttrs(got, bare) {
			t.Errorf("Select(.., %q, true) = %#v, want %#v", c.wanted, got, bare)
		}
		holdSelect(t, e, c.wanted...)
	}
}

// P8.5: which types are the directory's own, by every name of the table.
func TestOwnTypes(t *testing.T) {
	for number, row := range attr.Types() {
		for _, canon := range append(row.Aliases, row.Name, row.OID, row.Name+";x") {
			e := having(at("d", canon, "v"))
			own := number >= 56 && number <= 60
			if got := len(Select(e, []string{"+"}, false)) > 0; got != own {
				t.Errorf("%q is the directory's own: %v", canon, got)
			}
			if got := len(Select(e, nil, false)) > 0; got == own {
				t.Errorf("%q is the users': %v", canon, got)
			}
			holdSelect(t, e, canon)
		}
	}
}

// P8.5: what no description is as a Canon is the users'; attributes without a value are told, those with one Canon each by itself.
func TestSelectOfEntriesThatNoMakeMade(t *testing.T) {
	e := having(at("a", ""), at("", "createTimestamp;", "x"), at("cn", "cn"), at("cn", "CN", "x", "x"), at("*", "*", ""), at("1.1", "1.1"), at("b", "CREATETIMESTAMP;x", "y"))
	for _, c := range []struct {
		wanted []string
		want   []api.Attr
	}{
		{nil, []api.Attr{at("a", ""), at("", "", "x"), at("cn", ""), at("cn", "", "x", "x"), at("*", "", ""), at("1.1", "")}},
		{[]string{"+"}, []api.Attr{at("b", "", "y")}},
		{[]string{"commonName", "name"}, []api.Attr{at("cn", ""), at("cn", "", "x", "x")}},
		{[]string{"", "createTimestamp;"}, nil},
		{[]string{"createTimestamp"}, []api.Attr{at("b", "", "y")}},
	} {
		if got := Select(e, c.wanted, false); !sameAttrs(got, c.want) {
			t.Errorf("Select(.., %q) = %#v, want %#v", c.wanted, got, c.want)
		}
		holdSelect(t, e, c.wanted...)
	}
	if got := Select(api.Entry{}, []string{"*", "+", "cn"}, false); len(got) > 0 {
		t.Errorf("of nothing it is %#v", got)
	}
}

// P8.5: the order of the texts, and how often one stands there, are without effect.
func TestOrderOfWishes(t *testing.T) {
	e := mixed(t)
	r := rand.New(rand.NewSource(85))
	for range 1000 {
		var wanted []string
		for range r.Intn(5) {
			wanted = append(wanted, someText(r))
		}
		want := Select(e, wanted, false)
		turned := append(slices.Clone(wanted), wanted...)
		slices.Reverse(turned)
		if got := Select(e, turned, false); !sameAttrs(got, want) {
			t.Fatalf("Select(.., %q) = %#v, turned about %#v", wanted, want, got)
		}
	}
}

// P8.5
func TestSelectOfManyEntries(t *testing.T) {
	r := rand.New(rand.NewSource(86))
	for range 6000 {
		var wanted []string
		for range r.Intn(5) {
			wanted = append(wanted, someText(r))
		}
		holdSelect(t, having(someAttrs(r)...), wanted...)
	}
}
