package attr

import (
	"slices"
	"strings"
	"testing"

	"roster/api"
)

// P4.1
func TestTypesYieldsTheTable(t *testing.T) {
	want := table
	next := 0
	for number, row := range Types() {
		if number != next || next >= len(want) || !sameRow(row, want[next].told()) {
			t.Fatalf("row %d: %d, %+v", next, number, row)
		}
		next++
	}
	if next != 62 {
		t.Errorf("%d rows", next)
	}
}

// P4.1, P0.1
func TestTypesStoppedBehindAnyRow(t *testing.T) {
	want := table
	types := Types()
	for last := range want {
		seen := 0
		for number, row := range types {
			if number != seen || !sameRow(row, want[number].told()) {
				t.Fatalf("stopped behind %d: %d, %+v", last, number, row)
			}
			seen++
			if number == last {
				break
			}
		}
		if seen != last+1 {
			t.Fatalf("stopped behind %d: %d rows", last, seen)
		}
	}
}

// P0.1, of the iterator inside.
func TestLabelsStoppedBehindAnyRow(t *testing.T) {
	for last := range table {
		seen := 0
		for number, l := range labels() {
			if number != seen || l.oid != table[number].oid {
				t.Fatalf("stopped behind %d: %d, %+v", last, number, l)
			}
			seen++
			if number == last {
				break
			}
		}
		if seen != last+1 {
			t.Fatalf("stopped behind %d: %d rows", last, seen)
		}
	}
}

// P4.1, P0.1
func TestTypesInsideItself(t *testing.T) {
	types := Types()
	outer := 0
	for number, row := range types {
		inner := 0
		for n, r := range types {
			if n != inner || !sameRow(r, table[n].told()) {
				t.Fatalf("inside row %d: %d, %+v", number, n, r)
			}
			inner++
			if n == number {
				break
			}
		}
		if number != outer || inner != number+1 || !sameRow(row, table[number].told()) {
			t.Fatalf("row %d: %d, %+v, with %d inside", outer, number, row, inner)
		}
		outer++
	}
	if outer != 62 {
		t.Errorf("%d rows", outer)
	}
}

// P4.1, P4.2, P0.1
func TestRowsAreNewMemory(t *testing.T) {
	for _, row := range Types() {
		spoil(row.Aliases)
	}
	for _, l := range table {
		row, _ := Find(l.name)
		spoil(row.Aliases)
	}
	number := 0
	types := Types()
	for _, row := range types {
		spoil(row.Aliases)
		again, _ := Find(row.OID)
		if !sameRow(again, table[number].told()) {
			t.Errorf("row %d is changed: %+v", number, again)
		}
		number++
	}
	for number, row := range types {
		if !sameRow(row, table[number].told()) {
			t.Errorf("row %d is changed: %+v", number, row)
		}
	}
}

// spoil writes into a list and its spare room.
func spoil(list []string) {
	list = list[:cap(list)]
	for i := range list {
		list[i] = "spoilt"
	}
}

// P4.2
func TestFind(t *testing.T) {
	for _, l := range table {
		for _, called := range l.texts() {
			for _, s := range anyCase(called) {
				if row, ok := Find(s); !ok || !sameRow(row, l.told()) {
					t.Fatalf("Find(%q) = %+v, %v", s, row, ok)
				}
			}
		}
	}
	row, ok := Find("FAX")
	if !ok || !sameRow(row, api.AttrType{Name: "facsimiletelephonenumber", Aliases: []string{"fax"}, OID: "2.5.4.23", Syntax: api.SynPhone}) {
		t.Errorf("Find(FAX) = %+v, %v", row, ok)
	}
	row, ok = Find("2.5.4.7.1")
	if !ok || !sameRow(row, api.AttrType{Name: "c-l", OID: "2.5.4.7.1", Super: "l", Syntax: api.SynText}) {
		t.Errorf("Find(2.5.4.7.1) = %+v, %v", row, ok)
	}
}

// P4.2
func TestFindOfNoName(t *testing.T) {
	for _, s := range []string{"", "fax;x", "2.5.4", "2", ";", "-", "cn ", " cn", "c n", "cn\x00", "\x00", "c\xc4\xb1", "u\xc4\xb1d", "\xe2\x84\xaa", "02.5.4.3", "2.5.4.03", "oid.2.5.4.3", "xColour", "\xff"} {
		checkNoRow(t, s)
	}
	for _, l := range table {
		for _, called := range l.texts() {
			for _, s := range []string{called + ";x", called + ";", called + " ", " " + called, called + "-", "." + called, called + ".", called + "_", strings.Replace(called, "a", "\xe1", 1) + "\xe1", called[1:], called[:len(called)-1]} {
				if slowRow(s) < 0 {
					checkNoRow(t, s)
				}
			}
		}
	}
}

func checkNoRow(t *testing.T, s string) {
	t.Helper()
	if row, ok := Find(s); ok || !sameRow(row, api.AttrType{}) || row.Aliases != nil {
		t.Errorf("Find(%q) = %+v, %v", s, row, ok)
	}
}

// P4.7
func TestSupers(t *testing.T) {
	for _, c := range []struct {
		typ  string
		want []string
	}{
		{"C-L", []string{"c-l", "l", "name"}},
		{"Nope", []string{"nope"}},
		{"2.5.4.49", []string{"distinguishedname"}},
		{"", []string{""}},
		{"CN;X", []string{"cn;x"}},
		{"registeredAddress", []string{"registeredaddress", "postaladdress"}},
		{"objectClass", []string{"objectclass"}},
		{" A\xffB\xc3\x84 ", []string{" a\xffb\xc3\x84 "}},
		{"2.5.4", []string{"2.5.4"}},
	} {
		if got := Supers(c.typ); !slices.Equal(got, c.want) {
			t.Errorf("Supers(%q) = %q; want %q", c.typ, got, c.want)
		}
	}
	for _, l := range table {
		for _, called := range l.texts() {
			for _, s := range anyCase(called) {
				if got, want := Supers(s), slowSupers(s); !slices.Equal(got, want) {
					t.Fatalf("Supers(%q) = %q; want %q", s, got, want)
				}
			}
		}
	}
}

// P4.7, P0.1
func TestSupersAreNewMemory(t *testing.T) {
	for _, s := range []string{"c-l", "cn", "nope", ""} {
		want := slowSupers(s)
		first, second := Supers(s), Supers(s)
		spoil(first)
		if !slices.Equal(second, want) || !slices.Equal(Supers(s), want) {
			t.Errorf("Supers(%q) shares its memory: %q", s, second)
		}
	}
}

// P4.9
func TestSyntax(t *testing.T) {
	for _, c := range []struct {
		s    string
		want api.Syntax
	}{
		{"MAIL", api.SynIA5},
		{"mail;x", api.SynIA5},
		{"foo", api.SynNone},
		{"mail;", api.SynNone},
		{"", api.SynNone},
		{"2.5.4", api.SynNone},
		{"foo;mail", api.SynNone},
		{"mail;;x", api.SynNone},
		{" mail", api.SynNone},
		{"mail ", api.SynNone},
		{"objectClass", api.SynOID},
		{"2.5.4.45;B;a;b", api.SynBits},
	} {
		if got := Syntax(c.s); got != c.want {
			t.Errorf("Syntax(%q) = %d; want %d", c.s, got, c.want)
		}
	}
	for _, l := range table {
		for _, called := range l.texts() {
			for _, end := range []string{"", ";x", ";Lang-DE;1", ";", "_", ";x;", " "} {
				for _, s := range anyCase(called) {
					if got, want := Syntax(s+end), slowSyntax(s+end); got != want {
						t.Fatalf("Syntax(%q) = %d; want %d", s+end, got, want)
					}
				}
			}
		}
	}
}
