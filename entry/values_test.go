package entry

import (
	"math/rand"
	"slices"
	"testing"

	"roster/api"
)

// P8.4: the chapter's examples, and what a description covers.
func TestValues(t *testing.T) {
	first, second := made(t, ann()), made(t, record(1, "cn=Ann,o=x", "sn", "Lee"))
	third := made(t, record(1, "CN=ANN+sn=Lee,o=x", "cn", "ann"))
	fourth := made(t, record(1, "commonName=Ann", "cn;lang-de", "Ann"))
	odd := made(t, record(1, "", "x-odd;b;a", "1", "x-odd", "1", "1.1", "2", "1.1;x", "3"))
	for _, c := range []struct {
		e    api.Entry
		desc string
		want []string
	}{
		{third, "name", []string{"ann", "Lee"}},
		{fourth, "cn;lang-de", []string{"Ann"}},
		{second, "cn;lang-de", nil},
		{fourth, "CN", []string{"Ann", "Ann"}},
		{fourth, "name;LANG-DE", []string{"Ann"}},
		{fourth, "2.5.4.41", []string{"Ann", "Ann"}},
		{fourth, "cn;lang-de;x", nil},
		{first, "objectClass", []string{"person"}},
		{first, "sn", nil},
		{second, "SURNAME", []string{"Lee"}},
		{first, "", nil},
		{first, "*", nil},
		{first, "cn;", nil},
		{first, "cn ", nil},
		{odd, "X-Odd", []string{"1", "1"}},
		{odd, "x-odd;A;b;a", []string{"1"}},
		{odd, "1.1", []string{"2", "3"}},
		{odd, "1.1;X", []string{"3"}},
		{odd, "+", nil},
	} {
		if got := Values(c.e, c.desc); !slices.Equal(got, c.want) {
			t.Errorf("Values(%#v, %q) = %q, want %q", c.e, c.desc, got, c.want)
		}
		if got := Has(c.e, c.desc); got != (len(c.want) > 0) {
			t.Errorf("Has(%#v, %q) = %v", c.e, c.desc, got)
		}
	}
}

// P8.4: an attribute without a value is none that Has tells; what counts is Canon, not Desc.
func TestValuesOfEntriesThatNoMakeMade(t *testing.T) {
	for _, c := range []struct {
		e    api.Entry
		want []string
	}{
		{api.Entry{}, nil},
		{having(at("cn", "cn")), nil},
		{having(at("cn", "cn"), at("sn", "sn", "b")), nil},
		{having(at("cn", "cn"), at("cn", "cn", "")), []string{""}},
		{having(at("cn", "sn", "a")), nil},
		{having(at("cn", "", "a")), nil},
		{having(at("", "cn", "a")), []string{"a"}},
		{having(at("sn", "COMMONNAME;x;;", "a")), nil},
		{having(at("sn", "COMMONNAME;x;A", "a")), []string{"a"}},
		{having(at("cn", "cn", "a", "A"), at("cn", "cn", "a")), []string{"a", "A", "a"}},
	} {
		if got := Values(c.e, "cn"); !slices.Equal(got, c.want) {
			t.Errorf("Values(%#v, cn) = %q, want %q", c.e, got, c.want)
		}
		if got := Has(c.e, "cn"); got != (len(c.want) > 0) {
			t.Errorf("Has(%#v, cn) = %v", c.e, got)
		}
	}
}

// P8.4
func TestValuesOfManyEntries(t *testing.T) {
	r := rand.New(rand.NewSource(84))
	for range 3000 {
		e := having(someAttrs(r)...)
		for range 6 {
			holdValues(t, e, someText(r))
		}
		for _, a := range e.Attrs {
			holdValues(t, e, a.Desc)
			holdValues(t, e, a.Canon)
		}
	}
}
