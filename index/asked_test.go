package index

import (
	"fmt"
	"math/rand"
	"testing"

	"roster/api"
)

// P11.5: the chapter's examples, and others of their kind.
func TestPresent(t *testing.T) {
	x := Build(four())
	for desc, want := range map[string][]int{
		"cn": {0, 1, 3}, "cn;lang-de": {3}, "X-Odd": {2}, "uidNumber": {3}, "name": {0, 1, 3}, "9": nil,
		"CommonName": {0, 1, 3}, "2.5.4.3": {0, 1, 3}, "CN;LANG-DE": {3}, "name;lang-de": {3}, "sn": {1}, "2.5.4.4": {1},
		"sn;lang-de": nil, "cn;lang-de;x": nil, "x-odd;a": nil, "mail": nil, "c": nil, "": nil, "cn;": nil, " cn": nil, "no-such": nil,
	} {
		holdNumbers(t, fmt.Sprintf("Present(%q)", desc), x.Present(desc), want)
	}
}

// P11.6: the chapter's examples, and others of their kind.
func TestEqual(t *testing.T) {
	x := Build(four())
	for _, c := range []struct {
		desc, normal string
		want         []int
	}{
		{"commonName", "ann lee", []int{0, 1}},
		{"cn", "Ann Lee", nil},
		{"x-odd", "Ann", nil},
		{"x-odd", "ann", nil},
		{"uidNumber", "x", nil},
		{"name", "lee", []int{1}},
		{"name", "anna", []int{3}},
		{"cn", "anna", []int{3}},
		{"cn;lang-de", "anna", []int{3}},
		{"cn;lang-de", "ann lee", nil},
		{"sn", "ann lee", nil},
		{"cn", "ann", nil},
		{"cn", "ann lee ", nil},
		{"cn", "", nil},
		{"", "ann lee", nil},
		{"cn;", "ann lee", nil},
		{"", "", nil},
	} {
		holdNumbers(t, fmt.Sprintf("Equal(%q, %q)", c.desc, c.normal), x.Equal(c.desc, c.normal), c.want)
	}
}

// P11.7: the chapter's examples, grams that aren't three bytes, and others.
func TestGram(t *testing.T) {
	x := Build(four())
	for _, c := range []struct {
		desc, gram string
		want       []int
	}{
		{"cn", "ann", []int{0, 1, 3}},
		{"cn", "an", nil},
		{"sn", "lee", []int{1}},
		{"cn", "lee", []int{0, 1}},
		{"name", "lee", []int{0, 1}},
		{"cn", "n l", []int{0, 1}},
		{"cn", "nna", []int{3}},
		{"cn;lang-de", "nna", []int{3}},
		{"cn;lang-de", "lee", nil},
		{"cn", "Ann", nil},
		{"cn", "", nil},
		{"cn", "a", nil},
		{"cn", "anna", nil},
		{"cn", "ann lee", nil},
		{"x-odd", "Ann", nil},
		{"x-odd", "ann", nil},
		{"", "ann", nil},
		{"cn;", "ann", nil},
	} {
		holdNumbers(t, fmt.Sprintf("Gram(%q, %q)", c.desc, c.gram), x.Gram(c.desc, c.gram), c.want)
	}
}

// P11.8: the chapter's examples, and others of their kind.
func TestHolding(t *testing.T) {
	x := Build(four())
	for _, c := range []struct {
		desc  string
		grams []string
		want  []int
	}{
		{"cn", []string{"ann", "lee"}, []int{0, 1}},
		{"name", []string{"lee", "ann"}, []int{0, 1}},
		{"cn", nil, []int{0, 1, 3}},
		{"cn", []string{}, []int{0, 1, 3}},
		{"x-odd", nil, []int{2}},
		{"uidnumber", nil, []int{3}},
		{"no-such", nil, nil},
		{"cn", []string{"ann", "an"}, nil},
		{"cn", []string{"an", "ann"}, nil},
		{"cn", []string{""}, nil},
		{"cn", []string{"ann", "ann"}, []int{0, 1, 3}},
		{"cn", []string{"nna", "ann", "nna"}, []int{3}},
		{"cn", []string{"lee", "nna"}, nil},
		{"cn", []string{"ann", "no!"}, nil},
		{"x-odd", []string{"Ann"}, nil},
		{"", []string{"ann"}, nil},
		{"", nil, nil},
	} {
		holdNumbers(t, fmt.Sprintf("Holding(%q, %q)", c.desc, c.grams), x.Holding(c.desc, c.grams), c.want)
	}
}

// P11.8: the grams may stand in different values, and beneath different covered Canons; not in one that isn't covered.
func TestHoldingAcrossValues(t *testing.T) {
	x := Build([]api.Entry{
		with(at("cn", "abc", "def")),
		with(at("cn", "abc"), at("sn", "def")),
		with(at("cn", "abc"), at("cn", "def")),
		with(at("cn", "abc"), at("cn;x", "def")),
		with(at("cn", "abc"), at("mail", "def")),
		with(at("cn", "abc"), at("CN", "DEF")),
		with(at("cn", "abc"), at("x-odd", "def")),
		with(at("cn", "def")),
	})
	two := []string{"def", "abc"}
	holdNumbers(t, "Holding(cn)", x.Holding("cn", two), []int{0, 2, 3, 5})
	holdNumbers(t, "Holding(name)", x.Holding("name", two), []int{0, 1, 2, 3, 5})
	holdNumbers(t, "Holding(cn;x)", x.Holding("cn;x", two), nil)
	holdNumbers(t, "Holding(mail)", x.Holding("mail", two), nil)
}

// odd are entries about the edges of what is indexed.
func odd() []api.Entry {
	return []api.Entry{
		with(at("cn", "a", "A", " a "), at("cn", "B", "a")), // 0: one normal form several times, one Canon twice
		with(at("cn"), at("sn", "a")),                       // 1: no value
		with(at("CN", "a"), at("commonName", "b")),          // 2: Canons that are no canonical descriptions
		with(at("cn;", "a"), at("", "a"), at("9", "a")),     // 3: Canons that are no descriptions
		with(at("x-odd", "a"), at("X-ODD;A", "a")),          // 4: no known type
		with(at("cn", "", "\xff"), at("uidnumber", "007")),  // 5: no value of its syntax
		with(at("cn", "\xff", "b")),                         // 6: one of two is
		with(at("c-l;x;y", "a"), at("member", "CN = a")),    // 7: a sub type's sub type, with options
		with(at("cn", "  "), at("mail", "")),                // 8: empty normal forms
		with(api.Attr{Desc: "cn", Canon: "sn", Values: []string{"b"}}, api.Attr{Desc: "cn", Values: []string{"a"}}),
	}
}

// P11.5, P11.6: the edges of what is indexed, and what covers it.
func TestEdges(t *testing.T) {
	x := Build(odd())
	for desc, want := range map[string][]int{
		"cn": {0, 2, 5, 6, 8}, "name": {0, 1, 2, 5, 6, 7, 8, 9}, "sn": {1, 9}, "cn;": nil, "": nil, "9": nil,
		"x-odd": {4}, "X-odd;a": {4}, "uidnumber": {5}, "l": {7}, "c-l;Y": {7}, "name;y;x": {7}, "name;z": nil,
		"distinguishedName": {7}, "mail": {8},
	} {
		holdNumbers(t, fmt.Sprintf("Present(%q)", desc), x.Present(desc), want)
	}
	for _, c := range []struct {
		desc, normal string
		want         []int
	}{
		{"cn", "a", []int{0, 2}}, {"cn", "b", []int{0, 2, 6}}, {"cn", "", []int{8}}, {"cn", "\xff", nil},
		{"name", "a", []int{0, 1, 2, 7}}, {"name", "b", []int{0, 2, 6, 9}}, {"x-odd", "a", nil}, {"cn;", "a", nil}, {"", "a", nil}, {"9", "a", nil},
		{"uidnumber", "007", nil}, {"l;x", "a", []int{7}}, {"distinguishedName", "cn=a", []int{7}}, {"member", "CN = a", nil}, {"mail", "", []int{8}},
	} {
		holdNumbers(t, fmt.Sprintf("Equal(%q, %q)", c.desc, c.normal), x.Equal(c.desc, c.normal), c.want)
	}
	holdIndex(t, odd())
}

// P11.7, P11.8: grams are those of the normal form, of every syntax, whether pieces may be sought in it or not.
func TestGramsOfNormalForms(t *testing.T) {
	x := Build([]api.Entry{with(
		at("cn", "A   B  C"), at("telephonenumber", "+1 2-3 4"), at("member", "CN=A, O=B"), at("uidnumber", "-12"), at("createtimestamp", "2024022912+0130"),
		at("userpassword", "\x00\xff\x00"), at("labeleduri", "Ab  C"), at("postaladdress", "X$Y"),
	)})
	for _, c := range []struct {
		desc, gram string
		has        bool
	}{
		{"cn", "a b", true}, {"cn", "b c", true}, {"cn", "A B", false}, {"cn", "a  ", false}, {"cn", "  b", false},
		{"telephoneNumber", "+12", true}, {"telephoneNumber", "234", true}, {"telephoneNumber", "1 2", false},
		{"member", "o=b", true}, {"member", "b,c", true}, {"member", "A, ", false}, {"distinguishedName", "n=a", true},
		{"uidNumber", "-12", true}, {"createTimestamp", "910", true}, {"createTimestamp", "+01", false},
		{"userPassword", "\x00\xff\x00", true}, {"labeledURI", "b C", true}, {"labeledURI", "b c", false}, {"postalAddress", "x$y", true},
	} {
		var want []int
		if c.has {
			want = []int{0}
		}
		holdNumbers(t, fmt.Sprintf("Gram(%q, %q)", c.desc, c.gram), x.Gram(c.desc, c.gram), want)
		holdNumbers(t, fmt.Sprintf("Holding(%q, %q)", c.desc, c.gram), x.Holding(c.desc, []string{c.gram}), want)
	}
}

// P11.3 to P11.8: each Canon with each value, alone.
func TestEachCanonAndValue(t *testing.T) {
	for _, canon := range canons() {
		for _, value := range values() {
			holdIndex(t, []api.Entry{with(at(canon, value))})
		}
	}
}

// P11.3 to P11.8: random entries.
func TestRandomEntries(t *testing.T) {
	r := rand.New(rand.NewSource(112))
	for range 100 {
		entries := someEntries(r, r.Intn(9))
		holdAsked(t, entries, askedOf(entries).some(r, 12))
	}
	entries := someEntries(r, 60)
	holdAsked(t, entries, askedOf(entries).some(r, 25))
	holdIndex(t, someEntries(r, 3))
}

// P11.8: random lists of grams.
func TestRandomGrams(t *testing.T) {
	r := rand.New(rand.NewSource(113))
	for range 100 {
		entries := someEntries(r, 1+r.Intn(12))
		x, q := Build(entries), askedOf(entries)
		for range 40 {
			desc, grams := pick(r, q.descs), []string(nil)
			for range r.Intn(5) {
				grams = append(grams, pick(r, q.grams))
			}
			holdNumbers(t, fmt.Sprintf("Holding(%q, %q)", desc, grams), x.Holding(desc, grams), slowHolding(entries, desc, grams))
		}
	}
}
