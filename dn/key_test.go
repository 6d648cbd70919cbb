package dn

import (
	"math/rand"
	"slices"
	"sort"
	"strings"
	"testing"

	"roster/api"
)

// P5.5
func TestKeyOf(t *testing.T) {
	for _, c := range []struct {
		s    string
		want []string
	}{
		{"", nil},
		{"SN=B+commonName=A  x,O= Acme", []string{"o=acme", "cn=a x+sn=b"}},
		{`o=A\,B`, []string{`o=a\,b`}},
		{`cn=\20`, []string{"cn="}},
		{"cn=a,ou=b,o=c", []string{"o=c", "ou=b", "cn=a"}},
		{`cn=\ #\ `, []string{`cn=\#`}},
		{`cn=\09#A`, []string{`cn=\#a`}},
		{`cn=a\00`, []string{`cn=a\00`}},
		{`cn=a\0a\0d\09\0b\0c\20b`, []string{"cn=a b"}},
		{"X-Odd=Z+1.2.3=\u00c9", []string{"1.2.3=\u00c9+x-odd=z"}},
		{"cn=#040141,2.5.4.10=B", []string{"o=b", "cn=a"}},
	} {
		key, err := KeyOf(c.s)
		if err != nil || !slices.Equal(key, c.want) {
			t.Errorf("KeyOf(%q) = %q, %v; want %q", c.s, key, err, c.want)
		}
		holdText(t, c.s)
	}
}

// P5.5: the key of the empty name.
func TestKeyOfTheEmptyName(t *testing.T) {
	for _, d := range []api.DN{nil, {}} {
		if key, err := Key(d); err != nil || len(key) != 0 {
			t.Errorf("Key(%q) = %q, %v", d, key, err)
		}
	}
}

// P5.4
func TestPart(t *testing.T) {
	for _, c := range []struct {
		r    api.RDN
		want string
	}{
		{part("sn", " B+", "CN", "a"), `cn=a+sn=b\+`},
		{part("cn", "  Ann \t LEE "), "cn=ann lee"},
		{part("cn", ""), "cn="},
		{part("cn", " \n "), "cn="},
		{part("cn", " #"), `cn=\#`},
		{part("cn", "a\x00 ,"), `cn=a\00 \,`},
		{part("surname", "1", "2.5.4.10", "2", "ORGANIZATIONALUNITNAME", "3", "commonName", "4"), "cn=4+o=2+ou=3+sn=1"},
		{part("a-", "1", "a", "2"), "a=2+a-=1"},
		{part("b", "1", "ab", "2", "1.10", "3", "1.2", "4", "a1", "5", "aA", "6"), "1.10=3+1.2=4+a1=5+aa=6+ab=2+b=1"},
		{part("cn", "\u00c9\u212a"), "cn=\u00c9\u212a"},
	} {
		if s, err := Part(c.r); err != nil || s != c.want {
			t.Errorf("Part(%q) = %q, %v; want %q", c.r, s, err, c.want)
		}
		holdPart(t, c.r)
	}
}

// P5.4: what is no part is refused at the place 0.
func TestPartRefuses(t *testing.T) {
	for _, c := range []struct {
		r   api.RDN
		err api.Errno
	}{
		{nil, api.ErrNameMade}, {api.RDN{}, api.ErrNameMade}, {wide(9), api.ErrNameWide}, {make(api.RDN, 9), api.ErrNameWide}, {make(api.RDN, 8), api.ErrNameMade},
		{one("cn ", "a"), api.ErrNameMade}, {one("cn", "\xff"), api.ErrNameUTF8}, {part("cn", "a", "cn", "\xff"), api.ErrNameTwice},
		{part("cn", "a", "sn", "\xff", "x=", ""), api.ErrNameUTF8},
	} {
		s, err := Part(c.r)
		holdError(t, err, c.err, 0, "Part(%q)", c.r)
		if s != "" {
			t.Errorf("Part(%q) = %q beside an error", c.r, s)
		}
	}
	if s, err := Part(wide(8)); err != nil || s == "" {
		t.Errorf("Part of eight pairs = %q, %v", s, err)
	}
}

// P5.4, P5.5: a key doesn't hang on the pairs' order, on case, on the type's name, on blanks, or on how a byte is escaped.
func TestOneKeyOfManyTexts(t *testing.T) {
	want := []string{"dc=x", `cn=ann lee\,+sn=\#1`}
	for _, s := range []string{
		`cn=Ann Lee\,+sn=\#1,dc=x`,
		`sn=\#1+cn=Ann Lee\,,dc=x`,
		`SURNAME=\231+COMMONNAME=ANN  LEE\2c,domainComponent=X`,
		` 2.5.4.4 = \#1 + 2.5.4.3 = \ ann\09\0aLee\2C\20 , 0.9.2342.19200300.100.1.25 = x `,
		`cn=#0409416e6e20204c65652c+sn=#13022331,Dc=#160178`,
		`cn=\41\6e\6e Lee\,+sn=\23\31,dc=\58`,
	} {
		if key, err := KeyOf(s); err != nil || !slices.Equal(key, want) {
			t.Errorf("KeyOf(%q) = %q, %v; want %q", s, key, err, want)
		}
	}
}

// P5.5: names that differ in more than that have keys of their own.
func TestKeysApart(t *testing.T) {
	seen := map[string]string{}
	for _, s := range []string{"", "cn=a", "cn=b", "sn=a", "cn=a,cn=a", "cn=a+sn=a", "cn=a,sn=a", "sn=a,cn=a", "cn=a+sn=b", "cn=b+sn=a", `cn=a\+sn=a`, `cn=a\,cn=a`, "cn=ab", "cn=a b", "cn=\u00e9", "cn=\u00c9", `cn=\\`, `cn=\#`, "cn=", "x=a", "1.2=a", "cn=a=a"} {
		key, err := KeyOf(s)
		if err != nil {
			t.Fatalf("KeyOf(%q): %v", s, err)
		}
		told := strings.Join(key, "\n")
		if other, double := seen[told]; double {
			t.Errorf("%q and %q have one key", s, other)
		}
		seen[told] = s
	}
}

// P5.4, P5.5: pairs in any order, types by any of their names, letters of any case.
func TestKeysOfSomeNames(t *testing.T) {
	r := rand.New(rand.NewSource(7))
	for range 5000 {
		d := someName(r)
		key, err := Key(d)
		if err != nil {
			t.Fatalf("Key(%q): %v", d, err)
		}
		turned := turnedAbout(r, d)
		if again, err := Key(turned); err != nil || !slices.Equal(again, key) {
			t.Fatalf("Key(%q) = %q, %v; but Key(%q) = %q", turned, again, err, d, key)
		}
		for number, part := range d {
			if s, err := Part(part); err != nil || s != key[len(key)-1-number] {
				t.Fatalf("Part(%q) = %q, %v; the key is %q", part, s, err, key)
			}
		}
		if len(d) == 0 {
			continue
		}
		up, err := Key(d[1:])
		if parent, ok := Parent(key); err != nil || !ok || !slices.Equal(parent, up) {
			t.Fatalf("Parent(%q) = %q, %v; want %q", key, parent, ok, up)
		}
	}
}

// turnedAbout is the same name told otherwise.
func turnedAbout(r *rand.Rand, d api.DN) api.DN {
	var out api.DN
	for _, from := range d {
		var to api.RDN
		for _, i := range r.Perm(len(from)) {
			pair := from[i]
			for _, row := range someTypes {
				if slices.Contains(row, pair.Type) {
					pair.Type = pick(r, row...)
				}
			}
			pair.Value = pick(r, "", " ", "\t\n") + strings.ReplaceAll(pair.Value, " ", pick(r, " ", "  ", "\v \f")) + pick(r, "", " ", "\r ")
			pair.Value = pick(r, pair.Value, lower(pair.Value), strings.ReplaceAll(pair.Value, "a", "A"))
			to = append(to, pair)
		}
		out = append(out, to)
	}
	return out
}

// slowCompare is P5.6.
func slowCompare(a, b []string) int {
	for i := 0; i < len(a) && i < len(b); i++ {
		if a[i] != b[i] {
			return strings.Compare(a[i], b[i])
		}
	}
	switch {
	case len(a) < len(b):
		return -1
	case len(a) > len(b):
		return 1
	}
	return 0
}

// P5.6, P5.7
func TestCompareAndWithin(t *testing.T) {
	for _, c := range []struct {
		a, b   []string
		want   int
		within bool
	}{
		{nil, nil, 0, true},
		{nil, []string{}, 0, true},
		{[]string{}, nil, 0, true},
		{nil, []string{""}, -1, true},
		{[]string{""}, nil, 1, false},
		{[]string{"o=a", "cn=b"}, []string{"o=a"}, 1, false},
		{[]string{"o=a", "cn=b"}, []string{"o=a,b"}, -1, false},
		{[]string{"o=a"}, []string{"o=a", "cn=b"}, -1, true},
		{[]string{"o=a"}, []string{"o=ab"}, -1, false},
		{[]string{"o=a", "cn=b"}, []string{"o=a", "cn=b"}, 0, true},
		{[]string{"b"}, []string{"a", "z"}, 1, false},
		{[]string{"a", "b", "c"}, []string{"a", "c"}, -1, false},
		{[]string{"A"}, []string{"a"}, -1, false},
		{[]string{"\xff"}, []string{"a"}, 1, false},
		{[]string{"\x7f"}, []string{"\x80"}, -1, false},
		{[]string{"a\x00"}, []string{"a"}, 1, false},
		{[]string{"", ""}, []string{""}, 1, false},
		{[]string{"ab"}, []string{"a", "b"}, 1, false},
	} {
		if got := Compare(c.a, c.b); got != c.want {
			t.Errorf("Compare(%q, %q) = %d; want %d", c.a, c.b, got, c.want)
		}
		if got := Compare(c.b, c.a); got != -c.want {
			t.Errorf("Compare(%q, %q) = %d; want %d", c.b, c.a, got, -c.want)
		}
		if got := Within(c.a, c.b); got != c.within {
			t.Errorf("Within(%q, %q) = %v; want %v", c.a, c.b, got, c.within)
		}
	}
}

// shortKeys are all lists of at most so many of some texts.
func shortKeys(longest int) [][]string {
	keys := [][]string{nil}
	for from := 0; longest > 0; longest-- {
		to := len(keys)
		for _, front := range keys[from:to] {
			for _, piece := range []string{"", "a", "a,b", "b", "\xff"} {
				keys = append(keys, append(slices.Clone(front), piece))
			}
		}
		from = to
	}
	return keys
}

// P5.6, P5.7: a total order, in which the keys within a base stand together, the base first.
func TestOrderOfKeys(t *testing.T) {
	keys := shortKeys(3)
	for _, a := range keys {
		for _, b := range keys {
			if got, want := Compare(a, b), slowCompare(a, b); got != want {
				t.Fatalf("Compare(%q, %q) = %d; want %d", a, b, got, want)
			}
			want := len(a) <= len(b) && slowCompare(a, b[:min(len(a), len(b))]) == 0
			if got := Within(a, b); got != want {
				t.Fatalf("Within(%q, %q) = %v", a, b, got)
			}
		}
	}
	sort.Slice(keys, func(i, j int) bool { return Compare(keys[i], keys[j]) < 0 })
	for at, base := range keys {
		end := at
		for end < len(keys) && Within(base, keys[end]) {
			end++
		}
		for i, key := range keys {
			if Within(base, key) != (at <= i && i < end) {
				t.Fatalf("%q, at %d, does not stand with what is within %q, at %d", key, i, base, at)
			}
		}
	}
}

// P5.7
func TestParent(t *testing.T) {
	for _, key := range shortKeys(3) {
		parent, ok := Parent(key)
		if len(key) == 0 {
			if ok || len(parent) != 0 {
				t.Errorf("Parent(%q) = %q, %v", key, parent, ok)
			}
			continue
		}
		if !ok || !slices.Equal(parent, key[:len(key)-1]) {
			t.Errorf("Parent(%q) = %q, %v", key, parent, ok)
		}
	}
	if parent, ok := Parent([]string{}); ok || len(parent) != 0 {
		t.Errorf("Parent of the empty list = %q, %v", parent, ok)
	}
}

// P5.7, P0.1: the parent's list shares no memory with the key's, spare room too.
func TestParentIsNewMemory(t *testing.T) {
	for parts := 1; parts < 6; parts++ {
		room := []string{"a", "b", "c", "d", "e", "f"}
		before := slices.Clone(room)
		key := room[:parts]
		first, _ := Parent(key)
		second, _ := Parent(key)
		for i := range first[:cap(first)] {
			first[:cap(first)][i] = "spoilt"
		}
		if !slices.Equal(room, before) || !slices.Equal(second, before[:parts-1]) {
			t.Fatalf("the key is %q, another parent %q", room, second)
		}
		for i := range room {
			room[i] = "spoilt"
		}
		if !slices.Equal(second, before[:parts-1]) {
			t.Fatalf("the parent is %q behind a change of the key", second)
		}
	}
}
