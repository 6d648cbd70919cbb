package entry

import (
	"math/rand"
	"slices"
	"strconv"
	"strings"
	"testing"

	"roster/api"
	"roster/attr"
)

// ann is the record of the chapter's first example.
func ann() api.Record {
	return record(1, "cn=Ann,o=x", "objectClass", "person", "CN", "Ann", "commonName", " ann ", "cn", "Lee")
}

// made is the entry of a record that isn't refused.
func made(t *testing.T, r api.Record) api.Entry {
	t.Helper()
	e, err := Make(r)
	if err != api.OK {
		t.Fatalf("Make(%#v): %d", r, err)
	}
	return e
}

// P8.1: the chapter's examples.
func TestMakeOfTheExamples(t *testing.T) {
	for _, c := range []struct {
		r     api.Record
		key   []string
		attrs []api.Attr
	}{
		{ann(), []string{"o=x", "cn=ann"}, []api.Attr{at("objectClass", "objectclass", "person"), at("CN", "cn", "Ann", "Lee")}},
		{record(1, "cn=Ann,o=x", "sn", "Lee"), []string{"o=x", "cn=ann"}, []api.Attr{at("sn", "sn", "Lee"), at("cn", "cn", "Ann")}},
		{record(1, "CN=ANN+sn=Lee,o=x", "cn", "ann"), []string{"o=x", "cn=ann+sn=lee"}, []api.Attr{at("cn", "cn", "ann"), at("sn", "sn", "Lee")}},
		{record(1, "commonName=Ann", "cn;lang-de", "Ann"), []string{"cn=ann"}, []api.Attr{at("cn;lang-de", "cn;lang-de", "Ann"), at("commonName", "cn", "Ann")}},
		{record(1, "", "x-odd;b;A", "1", "X-ODD;a;B", "1", "x-odd", "1", "x-odd", "1 "), nil, []api.Attr{at("x-odd;b;A", "x-odd;a;b", "1"), at("x-odd", "x-odd", "1", "1 ")}},
	} {
		want := api.Entry{Line: 1, Name: c.r.Name, Key: c.key, Attrs: c.attrs}
		if got := made(t, c.r); !sameEntry(got, want) {
			t.Errorf("Make(%#v) = %#v, want %#v", c.r, got, want)
		}
		holdMake(t, c.r)
	}
}

// P8.1: the line and the name are the record's, whatever they are.
func TestLineAndName(t *testing.T) {
	for _, line := range []int{0, 1, 7, -1, 1 << 40} {
		for _, name := range []string{"", " cn = A , O=x ", "cn=\\41", "2.5.4.3=#040141"} {
			if e := made(t, record(line, name, "sn", "b")); e.Line != line || e.Name != name {
				t.Errorf("Make at %d of %q has %d, %q", line, name, e.Line, e.Name)
			}
			holdMake(t, record(line, name))
		}
	}
}

// P8.1: a name that does not parse is told ahead of a description that is none; with an error nothing else is told.
func TestMakeRefuses(t *testing.T) {
	for _, c := range []struct {
		r    api.Record
		want api.Errno
	}{
		{record(7, "cn", "9", "x"), api.ErrName},
		{record(7, "cn", "cn", "x"), api.ErrName},
		{record(7, "cn=a;", "", "x"), api.ErrName},
		{record(7, "cn=a,"), api.ErrName},
		{record(7, " "), api.ErrName},
		{record(7, "cn=a+commonName=b", "cn", "a"), api.ErrName},
		{record(7, "cn="+strings.Repeat("a", api.MaxName), "cn", "a"), api.ErrName},
		{record(7, "cn=\xff", "cn", "a"), api.ErrName},
		{record(7, "cn=a", "9", "x"), api.ErrDesc},
		{record(7, "cn=a", "cn", "a", "c n", "x"), api.ErrDesc},
		{record(7, "cn=a", "cn", "a", "cn;", "x", "sn", "b"), api.ErrDesc},
		{record(7, "", "", "x"), api.ErrDesc},
		{record(7, "", "*", "x"), api.ErrDesc},
		{record(7, "dn=x", "dn ", "x"), api.ErrDesc},
	} {
		if e, err := Make(c.r); err != c.want || !sameEntry(e, api.Entry{}) {
			t.Errorf("Make(%#v) = %#v, %d, want %d", c.r, e, err, c.want)
		}
		holdMake(t, c.r)
	}
}

// P8.1: one description that is none is found at every place.
func TestMakeRefusesAtEveryPlace(t *testing.T) {
	const count = 12
	for place := range count {
		r := record(1, "cn=a")
		for i := range count {
			r.Pairs = append(r.Pairs, api.Pair{Desc: "x-" + strconv.Itoa(i), Value: "a"})
		}
		holdMake(t, r)
		r.Pairs[place].Desc += "_"
		if _, err := Make(r); err != api.ErrDesc {
			t.Errorf("a description that is none at %d: %d", place, err)
		}
	}
}

// P8.1: the name's own values, that the record has already, in another spelling, or not at all.
func TestOwnValues(t *testing.T) {
	for _, c := range []struct {
		r    api.Record
		want []api.Attr
	}{
		{record(1, "o=x"), []api.Attr{at("o", "o", "x")}},
		{record(1, "O=X,c=y", "o", " x"), []api.Attr{at("o", "o", " x")}},
		{record(1, "2.5.4.10=X,c=y", "organizationName", "y"), []api.Attr{at("organizationName", "o", "y", "X")}},
		{record(1, "o=x,cn=y", "o;lang-en", "x"), []api.Attr{at("o;lang-en", "o;lang-en", "x"), at("o", "o", "x")}},
		{record(1, "cn=a+sn=b+l=c", "l", "C"), []api.Attr{at("l", "l", "C"), at("cn", "cn", "a"), at("sn", "sn", "b")}},
		{record(1, "sn=b+cn=a"), []api.Attr{at("sn", "sn", "b"), at("cn", "cn", "a")}},
		{record(1, "x-Odd=A", "X-odd", "a"), []api.Attr{at("X-odd", "x-odd", "a", "A")}},
		{record(1, "uidNumber=07", "uidNumber", "7"), []api.Attr{at("uidNumber", "uidnumber", "7", "07")}},
		{record(1, "cn=", "cn", " "), []api.Attr{at("cn", "cn", " ", "")}},
		{record(1, "cn=\\,\\41"), []api.Attr{at("cn", "cn", ",A")}},
		{record(1, "member=o\\=X", "member", "O = x"), []api.Attr{at("member", "member", "O = x")}},
		{record(1, "homeDirectory=A", "homeDirectory", "a", "homedirectory", " A "), []api.Attr{at("homeDirectory", "homedirectory", "a", " A ")}},
	} {
		if got := made(t, c.r).Attrs; !sameAttrs(got, c.want) {
			t.Errorf("Make(%#v) has %#v, want %#v", c.r, got, c.want)
		}
		holdMake(t, c.r)
	}
}

// P8.1: a type that, folded, is dn gives no attribute out of the name; out of a pair it does.
func TestOwnTypeDN(t *testing.T) {
	for _, typ := range []string{"dn", "DN", "Dn", "dN"} {
		if e := made(t, record(1, typ+"=x")); len(e.Attrs) > 0 || !slices.Equal(e.Key, []string{"dn=x"}) {
			t.Errorf("the name's %q gives %#v", typ, e)
		}
		if got := made(t, record(1, typ+"=x+cn=y")).Attrs; !sameAttrs(got, []api.Attr{at("cn", "cn", "y")}) {
			t.Errorf("the name's %q and cn give %#v", typ, got)
		}
		if got := made(t, record(1, typ+"=y", typ, "x")).Attrs; !sameAttrs(got, []api.Attr{at(typ, "dn", "x")}) {
			t.Errorf("the pair's %q gives %#v", typ, got)
		}
	}
	for _, typ := range []string{"dnq", "d", "dn-", "dnQualifier", "distinguishedName", "dc"} {
		if got := made(t, record(1, typ+"=x")).Attrs; len(got) != 1 || got[0].Desc != typ {
			t.Errorf("the name's %q gives %#v", typ, got)
		}
	}
}

// P8.1: only the name's first part, which is the entry's own, gives values.
func TestOwnPartAlone(t *testing.T) {
	got := made(t, record(1, "cn=a,sn=b+l=c,o=d")).Attrs
	if want := []api.Attr{at("cn", "cn", "a")}; !sameAttrs(got, want) {
		t.Errorf("it has %#v", got)
	}
}

// P8.1: descriptions of one canonical form in all their spellings, options in any order and doubled: the first spelling stays.
func TestSpellings(t *testing.T) {
	spellings := []string{"cn;a;b", "CN;b;a", "commonName;A;B", "2.5.4.3;b;A;B", "cOMMONnAME;a;a;b"}
	for _, first := range spellings {
		r := record(1, "", first, "0")
		for i, other := range spellings {
			r.Pairs = append(r.Pairs, api.Pair{Desc: other, Value: strconv.Itoa(i)})
		}
		want := []api.Attr{at(first, "cn;a;b", "0", "1", "2", "3", "4")}
		if got := made(t, r).Attrs; !sameAttrs(got, want) {
			t.Errorf("with %q first it has %#v", first, got)
		}
	}
}

// P8.1: what differs in an option, or is a sub type, is an attribute of its own.
func TestOtherAttributes(t *testing.T) {
	got := made(t, record(1, "", "name", "a", "cn", "a", "cn;x", "a", "sn", "a", "cn;x;y", "a", "cn;y", "a")).Attrs
	want := []api.Attr{at("name", "name", "a"), at("cn", "cn", "a"), at("cn;x", "cn;x", "a"), at("sn", "sn", "a"), at("cn;x;y", "cn;x;y", "a"), at("cn;y", "cn;y", "a")}
	if !sameAttrs(got, want) {
		t.Errorf("it has %#v", got)
	}
}

// P8.1: of equal values the first stays; those that no normal form takes, and those of unknown types, are equal if they are the same bytes.
func TestEqualValues(t *testing.T) {
	for _, c := range []struct {
		desc         string
		values, want []string
	}{
		{"cn", []string{"A  b", " a B ", "ab", "a b", "AB"}, []string{"A  b", "ab"}},
		{"cn", []string{"", " ", "", "  "}, []string{"", " "}},
		{"cn", []string{"\xff", "\xfe", "\xff", "a\xff", "A\xff"}, []string{"\xff", "\xfe", "a\xff", "A\xff"}},
		{"mail;x", []string{"a@B", "A@b", "\xff", "\xff", "", " "}, []string{"a@B", "\xff", ""}},
		{"uidNumber", []string{"7", "07", "7", "07", "", "-0", "0", "-0"}, []string{"7", "07", "", "-0", "0"}},
		{"userPassword", []string{"a", "A", "a ", "a", "", ""}, []string{"a", "A", "a ", ""}},
		{"x-odd", []string{"a", "A", "a ", "a", "", ""}, []string{"a", "A", "a ", ""}},
		{"labeledURI", []string{"a b", "A b", " a  b"}, []string{"a b", "A b"}},
		{"member", []string{"cn=a,o=b", "CN=A, O=B", "=", "=", "", "2.5.4.3=a,o=b"}, []string{"cn=a,o=b", "=", ""}},
		{"telephoneNumber", []string{"+1 23", "+1-2-3", "+123", "*", "*"}, []string{"+1 23", "*"}},
		{"createTimestamp", []string{"20240229120000Z", "202402291200+00", "2024022912Z", "20240230120000Z", "20240230120000Z"}, []string{"20240229120000Z", "20240230120000Z"}},
		{"hasSubordinates", []string{"TRUE", "true", "FALSE", "TRUE", "true"}, []string{"TRUE", "true", "FALSE"}},
		{"x121Address", []string{"1 2", "12", "a", "a ", "a"}, []string{"1 2", "a", "a "}},
		{"postalAddress", []string{"a$b", "A $ b", "a$$b", "A$$b"}, []string{"a$b", "a$$b", "A$$b"}},
		{"objectClass", []string{"person", "PERSON", "2.5.6.6", "per son", "PER SON"}, []string{"person", "2.5.6.6", "per son", "PER SON"}},
		{"x500UniqueIdentifier", []string{"'01'B", "'01'b", "'01'B"}, []string{"'01'B", "'01'b"}},
	} {
		r := record(1, "")
		for _, value := range c.values {
			r.Pairs = append(r.Pairs, api.Pair{Desc: c.desc, Value: value})
		}
		canon, _, _ := attr.Canonical(c.desc)
		if got := made(t, r).Attrs; !sameAttrs(got, []api.Attr{at(c.desc, canon, c.want...)}) {
			t.Errorf("%q of %s gives %#v, want %q", c.values, c.desc, got, c.want)
		}
		holdMake(t, r)
	}
}

// P8.1: a value that has no normal form isn't equal to one whose normal form has its bytes.
func TestValueLikeANormalForm(t *testing.T) {
	for _, c := range []struct{ desc, taken, other string }{
		{"cn", " ", ""},
		{"x121Address", " ", ""},
		{"telephoneNumber", "-", ""},
		{"createTimestamp", "2024022912Z", "20240229120000"},
		{"postalAddress", "a$ ", "a$"},
	} {
		for _, values := range [][]string{{c.taken, c.other}, {c.other, c.taken}} {
			r := record(1, "", c.desc, values[0], c.desc, values[1], c.desc, values[0], c.desc, values[1])
			if got := made(t, r).Attrs[0].Values; !slices.Equal(got, values) {
				t.Errorf("%q of %s: %q", values, c.desc, got)
			}
		}
	}
}

// P8.1: the same value may stand in many attributes.
func TestOneValueOfManyAttributes(t *testing.T) {
	r := record(1, "")
	var want []api.Attr
	for row := range attr.Types() {
		desc := "x-" + strconv.Itoa(row)
		r.Pairs = append(r.Pairs, api.Pair{Desc: desc, Value: "a"}, api.Pair{Desc: desc, Value: "a"})
		want = append(want, at(desc, desc, "a"))
	}
	if got := made(t, r).Attrs; !sameAttrs(got, want) {
		t.Errorf("it has %#v", got)
	}
}

// P8.1: every type of the table, by all its names, with values of all kinds.
func TestMakeOfAllTypes(t *testing.T) {
	for _, row := range attr.Types() {
		r := record(1, row.OID+"=A+x-odd=b")
		for _, value := range []string{"a", " A", "7", "", "\xff", "o=x", "O = X", "TRUE", "1 2", "12", "2024022912Z", "202402291200Z", "a$b", "A$b", "''B", "\xff", ""} {
			for _, desc := range append(row.Aliases, row.Name, row.OID, strings.ToUpper(row.Name)) {
				r.Pairs = append(r.Pairs, api.Pair{Desc: desc, Value: value})
			}
		}
		holdMake(t, r)
	}
}

// P8.1, P8.3: all records of a few pairs.
func TestMakeOfShortRecords(t *testing.T) {
	pairs := []string{"cn", "a", "CN", " A", "commonName;x", "a", "x-odd", "a", "dn", "x", "9", "a"}
	for _, name := range []string{"", "cn=A", "x-odd=A+cn=b", "DN=x", "cn"} {
		var grow func(r api.Record, more int)
		grow = func(r api.Record, more int) {
			holdMake(t, r)
			if more == 0 {
				return
			}
			for pair := range slices.Chunk(pairs, 2) {
				longer := r
				longer.Pairs = append(slices.Clone(r.Pairs), api.Pair{Desc: pair[0], Value: pair[1]})
				grow(longer, more-1)
			}
		}
		grow(record(1, name), 3)
	}
}

// P8.1, P8.3: records of all kinds.
func TestMakeOfManyRecords(t *testing.T) {
	r := rand.New(rand.NewSource(81))
	for range 8000 {
		desc := someDesc
		if r.Intn(5) == 0 {
			desc = someText
		}
		holdMake(t, record(r.Intn(100)-10, someName(r), somePairs(r, desc)...))
	}
}

// P8.1: a record may have any number of values and of attributes.
func TestMakeOfALongRecord(t *testing.T) {
	const count = 5000
	r := record(1, "cn=0")
	want := []api.Attr{at("cn", "cn")}
	for i := range count {
		value := strconv.Itoa(i)
		r.Pairs = append(r.Pairs, api.Pair{Desc: "cn", Value: value}, api.Pair{Desc: "x-" + value, Value: "a"}, api.Pair{Desc: "commonName", Value: " " + value})
		want[0].Values = append(want[0].Values, value)
		want = append(want, at("x-"+value, "x-"+value, "a"))
	}
	if got := made(t, r).Attrs; !sameAttrs(got, want) {
		t.Errorf("it has %d attributes, the first with %d values", len(got), len(got[0].Values))
	}
}
