package entry

import (
	"math/rand"
	"slices"
	"strings"
	"testing"

	"roster/api"
	"roster/attr"
	"roster/dn"
	"roster/match"
)

func at(desc, canon string, values ...string) api.Attr {
	return api.Attr{Desc: desc, Canon: canon, Values: values}
}

// record takes descriptions and values by turns.
func record(line int, name string, pairs ...string) api.Record {
	r := api.Record{Line: line, Name: name}
	for pair := range slices.Chunk(pairs, 2) {
		r.Pairs = append(r.Pairs, api.Pair{Desc: pair[0], Value: pair[1]})
	}
	return r
}

// having is an entry that no Make made.
func having(attrs ...api.Attr) api.Entry {
	return api.Entry{Line: -3, Name: "no name", Key: []string{"no", "key"}, Attrs: attrs}
}

func sameAttrs(a, b []api.Attr) bool {
	return slices.EqualFunc(a, b, func(a, b api.Attr) bool {
		return a.Desc == b.Desc && a.Canon == b.Canon && slices.Equal(a.Values, b.Values)
	})
}

func sameEntry(a, b api.Entry) bool {
	return a.Line == b.Line && a.Name == b.Name && slices.Equal(a.Key, b.Key) && sameAttrs(a.Attrs, b.Attrs)
}

func sameRecord(a, b api.Record) bool {
	return a.Line == b.Line && a.Name == b.Name && slices.Equal(a.Pairs, b.Pairs)
}

// equalValues is the chapter's word of two values of a description.
func equalValues(desc, a, b string) bool {
	if _, err, _ := attr.Canonical(desc); err != api.OK {
		return a == b
	}
	normalA, takenA := match.Normal(attr.Syntax(desc), a)
	normalB, takenB := match.Normal(attr.Syntax(desc), b)
	if takenA && takenB {
		return normalA == normalB
	}
	return !takenA && !takenB && a == b
}

// slowAdd holds each value against all those ahead of it.
func slowAdd(attrs []api.Attr, desc, canon string, values ...string) []api.Attr {
	place := slices.IndexFunc(attrs, func(a api.Attr) bool { return a.Canon == canon })
	if place < 0 {
		place = len(attrs)
		attrs = append(attrs, at(desc, canon))
	}
	for _, value := range values {
		if !slices.ContainsFunc(attrs[place].Values, func(v string) bool { return equalValues(canon, v, value) }) {
			attrs[place].Values = append(attrs[place].Values, value)
		}
	}
	return attrs
}

// slowMake is P8.1, word by word: all faults first.
func slowMake(r api.Record) (api.Entry, api.Errno) {
	name, err := dn.Parse(r.Name)
	if err != nil {
		return api.Entry{}, 80
	}
	pairs := slices.Clone(r.Pairs)
	for _, pair := range pairs {
		if _, err, _ := attr.Canonical(pair.Desc); err != api.OK {
			return api.Entry{}, 40
		}
	}
	if len(name) > 0 {
		for _, own := range name[0] {
			if !slices.Contains([]string{"dn", "DN", "Dn", "dN"}, own.Type) {
				pairs = append(pairs, api.Pair{Desc: own.Type, Value: own.Value})
			}
		}
	}
	e := api.Entry{Line: r.Line, Name: r.Name}
	e.Key, _ = dn.KeyOf(r.Name)
	for _, pair := range pairs {
		canon, _, _ := attr.Canonical(pair.Desc)
		e.Attrs = slowAdd(e.Attrs, pair.Desc, canon, pair.Value)
	}
	return e, 0
}

// slowBack is P8.3.
func slowBack(e api.Entry) api.Record {
	var pairs []string
	for _, a := range e.Attrs {
		for _, value := range a.Values {
			pairs = append(pairs, a.Desc, value)
		}
	}
	return record(e.Line, e.Name, pairs...)
}

// slowValues is P8.4.
func slowValues(e api.Entry, desc string) []string {
	var out []string
	for _, a := range e.Attrs {
		if attr.Covers(desc, a.Canon) {
			out = append(out, a.Values...)
		}
	}
	return out
}

// slowOwn names the directory's own types out of the chapter's table.
func slowOwn(canon string) bool {
	if _, err, _ := attr.Canonical(canon); err != api.OK {
		return false
	}
	typ, _, _ := strings.Cut(canon, ";")
	switch strings.ToLower(typ) {
	case "createtimestamp", "modifytimestamp", "creatorsname", "modifiersname", "hassubordinates":
		return true
	case "2.5.18.1", "2.5.18.2", "2.5.18.3", "2.5.18.4", "2.5.18.9":
		return true
	}
	return false
}

// slowAsks tells whether one text asks for an attribute.
func slowAsks(text, canon string) bool {
	switch text {
	case "*":
		return !slowOwn(canon)
	case "+":
		return slowOwn(canon)
	case "1.1":
		return false
	}
	return attr.Covers(text, canon)
}

// slowSelect is P8.5.
func slowSelect(e api.Entry, wanted []string, typesOnly bool) []api.Attr {
	if len(wanted) == 0 {
		wanted = []string{"*"}
	}
	var out []api.Attr
	for _, a := range e.Attrs {
		if !slices.ContainsFunc(wanted, func(text string) bool { return slowAsks(text, a.Canon) }) {
			continue
		}
		if typesOnly {
			a.Values = nil
		}
		out = append(out, at(a.Desc, "", a.Values...))
	}
	return out
}

// slowMerge is P8.6.
func slowMerge(a, b []api.Attr) []api.Attr {
	var out []api.Attr
	for _, one := range append(slices.Clone(a), b...) {
		out = slowAdd(out, one.Desc, one.Canon, one.Values...)
	}
	return out
}

// holdMake holds Make, and Make of Back of it, to the chapter.
func holdMake(t *testing.T, r api.Record) {
	t.Helper()
	want, wantErr := slowMake(r)
	got, err := Make(r)
	if err != wantErr || !sameEntry(got, want) {
		t.Fatalf("Make(%#v) = %#v, %d, want %#v, %d", r, got, err, want, wantErr)
	}
	if err != api.OK {
		return
	}
	holdOrder(t, got.Attrs)
	again, err := Make(Back(got))
	if err != api.OK || !sameEntry(again, got) {
		t.Fatalf("Make(Back(%#v)) = %#v, %d", got, again, err)
	}
}

// holdOrder holds a list of attributes to the chapter's words 'in order'.
func holdOrder(t *testing.T, attrs []api.Attr) {
	t.Helper()
	for i, a := range attrs {
		if canon, err, _ := attr.Canonical(a.Desc); err != api.OK || canon != a.Canon {
			t.Fatalf("%q is not the canonical form of %q", a.Canon, a.Desc)
		}
		for _, b := range attrs[:i] {
			if a.Canon == b.Canon {
				t.Fatalf("two attributes are %q", a.Canon)
			}
		}
		for j, value := range a.Values {
			for _, ahead := range a.Values[:j] {
				if equalValues(a.Canon, ahead, value) {
					t.Fatalf("two values of %q are equal: %q, %q", a.Canon, ahead, value)
				}
			}
		}
	}
}

func holdSelect(t *testing.T, e api.Entry, wanted ...string) {
	t.Helper()
	for _, typesOnly := range []bool{false, true} {
		if got, want := Select(e, wanted, typesOnly), slowSelect(e, wanted, typesOnly); !sameAttrs(got, want) {
			t.Fatalf("Select(%#v, %q, %v) = %#v, want %#v", e, wanted, typesOnly, got, want)
		}
	}
}

func holdValues(t *testing.T, e api.Entry, desc string) {
	t.Helper()
	want := slowValues(e, desc)
	if got := Values(e, desc); !slices.Equal(got, want) {
		t.Fatalf("Values(%#v, %q) = %q, want %q", e, desc, got, want)
	}
	if got := Has(e, desc); got != (len(want) > 0) {
		t.Fatalf("Has(%#v, %q) = %v", e, desc, got)
	}
}

func holdBack(t *testing.T, e api.Entry) {
	t.Helper()
	if got, want := Back(e), slowBack(e); !sameRecord(got, want) {
		t.Fatalf("Back(%#v) = %#v, want %#v", e, got, want)
	}
}

func holdMerge(t *testing.T, a, b []api.Attr) {
	t.Helper()
	if got, want := Merge(a, b), slowMerge(a, b); !sameAttrs(got, want) {
		t.Fatalf("Merge(%#v, %#v) = %#v, want %#v", a, b, got, want)
	}
}

func pick[T any](r *rand.Rand, of ...T) T { return of[r.Intn(len(of))] }

// someDesc is a description, in one of its spellings, with options in any order.
func someDesc(r *rand.Rand) string {
	desc := pick(r, "cn", "CN", "commonName", "2.5.4.3", "sn", "name", "c-l", "l", "mail", "rfc822mailbox", "uidNumber", "member", "x-odd", "X-ODD", "1.1", "1.2.3",
		"dn", "createTimestamp", "HASSUBORDINATES", "2.5.18.3", "userPassword", "telephoneNumber", "postalAddress")
	for range r.Intn(3) - r.Intn(2) {
		desc += pick(r, ";a", ";A", ";b", ";lang-de", ";x")
	}
	return desc
}

// someText is a description, or none.
func someText(r *rand.Rand) string {
	if r.Intn(6) > 0 {
		return someDesc(r)
	}
	return pick(r, "", "*", "+", "1.1", "**", "c n", "cn;", ";a", "1", "01.2", "cn ", "\xff", "CN;a;;", "é")
}

// someValue is equal, by one syntax or another, to many that it gives.
func someValue(r *rand.Rand) string {
	return pick(r, "", " ", "a", "A", " a ", "a  b", "A b", "7", "07", "7 ", "-7", "TRUE", "true", "\xff", "\xfe", "é", "É", "cn=a", "CN=A", "cn= a", "=", "cn=a,o=b", "CN=A, o=B",
		"20240229120000Z", "2024022912+00", "1-2", "12", "1 2", "a$b", "A$ b", "'01'B")
}

func someName(r *rand.Rand) string {
	return pick(r, "", "cn=a", "CN=A", "commonName=\\ a\\ ", "cn=a+sn=b,o=c", "sn=b+2.5.4.3=a", "dn=x", "DN=x+cn=a", "cn=a+dN=x", "uidNumber=07", "x-odd=a", "X-ODD=A,o=x", "mail=\\20",
		"cn=", "member=CN\\=A", "userPassword=a", "createTimestamp=2024022912\\+00", "cn=a,cn=b,dn=c", "cn", "cn=a;", "cn;a=b", ",", "cn=a,", "cn=\xff")
}

func somePairs(r *rand.Rand, desc func(r *rand.Rand) string) []string {
	var pairs []string
	for range r.Intn(9) {
		pairs = append(pairs, desc(r), someValue(r))
	}
	return pairs
}

// someAttrs are such as no Make makes: without a value, with a Canon that is none, with one twice.
func someAttrs(r *rand.Rand) []api.Attr {
	var attrs []api.Attr
	for range r.Intn(6) {
		a := at(someText(r), someText(r))
		if canon, err, _ := attr.Canonical(a.Desc); err == api.OK && r.Intn(2) == 0 {
			a.Canon = canon
		}
		for range r.Intn(5) {
			a.Values = append(a.Values, someValue(r))
		}
		attrs = append(attrs, a)
	}
	return attrs
}
