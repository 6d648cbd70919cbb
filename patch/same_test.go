package patch

import (
	"testing"

	"roster/api"
)

// holdSame holds whether two trees are the same, either way.
func holdSame(t *testing.T, a, b []api.Entry, want bool) {
	t.Helper()
	x, y := grown(t, a...), grown(t, b...)
	if Same(x, y) != want || Same(y, x) != want {
		t.Errorf("Same isn't %v of\n%sand\n%s", want, shown(x), shown(y))
	}
	if !Same(x, x) || !Same(y, y) {
		t.Errorf("a tree isn't the same as itself:\n%s%s", shown(x), shown(y))
	}
	holdTrees(t, x, y)
	holdTrees(t, y, x)
}

// P21.3: what isn't asked: orders, spellings, lines and Descs.
func TestSame(t *testing.T) {
	holdSame(t, example(), example(), true)
	holdSame(t, example(), []api.Entry{having("O = X", "organizationName", " X "), having("OU=A,o=x", "ou", "A"), having("cn=1, ou=a, o=x", "surname", "LEE", "commonName", "1"), having("ou=\\62,o=x", "ou", "b")}, true)
	line := example()
	line[3].Line = -7
	holdSame(t, example(), line, true)
	root := func(attrs ...api.Attr) []api.Entry { return []api.Entry{odd("any", "o=x", attrs...)} }
	other := func(attrs ...api.Attr) []api.Entry { return []api.Entry{odd("other", "o=x", attrs...)} }
	holdSame(t, root(at("o", "o", "x"), at("sn", "sn", "a", "b")), other(at("S", "sn", "B", "A"), at("Q", "o", "X")), true)
	holdSame(t, root(at("sn", "sn", "a", "b")), other(at("sn", "sn", "b"), at("SN", "sn", "a")), true)
	holdSame(t, root(at("sn", "sn", "a", "A", "a")), other(at("sn", "sn", "a")), true)
	holdSame(t, root(at("sn", "sn", "a"), at("mail", "mail")), other(at("sn", "sn", "a")), true)
	holdSame(t, root(at("sn", "sn")), other(), true)
	holdSame(t, root(at("uidNumber", "uidnumber", "x", "7")), other(at("uidNumber", "uidnumber", "7", "x")), true)
	holdSame(t, []api.Entry{odd("", "")}, []api.Entry{{Key: []string{}, Name: "x"}}, true)
}

// P21.3: what is asked: the number of entries, keys, Canons, values.
func TestNotSame(t *testing.T) {
	holdSame(t, example(), example()[:3], false)
	holdSame(t, example(), example()[:1], false)
	holdSame(t, example(), append(example(), having("ou=c,o=x", "ou", "c")), false)
	moved := append(example()[:3], having("cn=1,ou=b,o=x", "cn", "1", "sn", "Lee"))
	holdSame(t, example(), moved, false)
	holdSame(t, []api.Entry{having("o=x", "sn", "a")}, []api.Entry{having("o=y", "o", "x", "sn", "a")}, false)
	holdSame(t, []api.Entry{odd("x", "a/b")}, []api.Entry{odd("x", "ab")}, false)
	root := func(attrs ...api.Attr) []api.Entry { return []api.Entry{odd("any", "o=x", attrs...)} }
	for _, c := range [][2][]api.Entry{
		{root(at("sn", "sn", "a")), root(at("sn", "sn", "b"))},
		{root(at("sn", "sn", "a")), root(at("sn", "sn", "a", "b"))},
		{root(at("sn", "sn", "a", "c")), root(at("sn", "sn", "a", "b"))},
		{root(at("sn", "sn", "a", "A")), root(at("sn", "sn", "a", "b"))},
		{root(at("sn", "sn", "a")), root(at("sn", "cn", "a"))},
		{root(at("sn", "sn", "a")), root(at("sn;x", "sn;x", "a"))},
		{root(at("sn", "sn", "a")), root(at("sn", "SN", "a"))},
		{root(at("sn", "sn", "a")), root(at("sn", "sn"))},
		{root(at("sn", "sn", "a")), root()},
		{root(at("sn", "sn", "")), root(at("sn", "sn"))},
		{root(at("sn", "sn", "a"), at("mail", "mail", "a")), root(at("sn", "sn", "a"), at("mail", "mail"))},
		{root(at("sn", "sn", "a"), at("mail", "mail", "b")), root(at("sn", "sn", "b"), at("mail", "mail", "a"))},
		{root(at("x-odd", "x-odd", "a")), root(at("x-odd", "x-odd", "A"))},
		{root(at("labeledURI", "labeleduri", "a")), root(at("labeledURI", "labeleduri", "A"))},
		{root(at("uidNumber", "uidnumber", "7")), root(at("uidNumber", "uidnumber", "07"))},
		// A value that isn't of the syntax is none whose normal form has its bytes.
		{root(at("telephoneNumber", "telephonenumber", "1 2")), root(at("telephoneNumber", "telephonenumber", "1\t2"))},
		{root(at("sn", "sn", "\xff")), root(at("sn", "sn", "\xfe"))},
		{root(at("cn", "no canon", "a")), root(at("cn", "no canon", "A"))},
	} {
		holdSame(t, c[0], c[1], false)
	}
}

// P21.3: a value that is of the syntax is never equal to one that isn't, though the one's normal form be the other's bytes.
func TestMarksApart(t *testing.T) {
	// The normal form of " " is the empty text, which itself is not of SynText.
	holdSame(t, []api.Entry{odd("", "", at("sn", "sn", " "))}, []api.Entry{odd("", "", at("sn", "sn", ""))}, false)
	holdAttrs(t, []api.Entry{odd("", "", at("sn", "sn", " "))}, changed("", to(0, "sn", "")), "", "sn[ |]")
	holdRefused(t, []api.Entry{odd("", "", at("sn", "sn", " "))}, changed("", to(1, "sn", "")), api.ErrNoValue)
	holdRefused(t, []api.Entry{odd("", "", at("sn", "sn", " "))}, changed("", to(0, "sn", "\t")), api.ErrHasValue)
}

// P21.3, P21.4: by chance: trees that are alike, sound ones and others.
func TestTreesByChance(t *testing.T) {
	m := newMaker(215)
	same, told := 0, map[api.Errno]int{}
	for round := range 2000 {
		entries := m.entries(6)
		if round%4 == 0 {
			entries = m.oddEntries(4)
		}
		a := m.tree(entries)
		b := m.tree(m.altered(entries))
		if round%3 == 0 {
			b = m.tree(m.entries(6))
		}
		if made, err, _ := All(a, m.changes(inOrder(entries), 4)); err == api.OK && round%3 == 1 {
			b = made
		}
		holdTrees(t, a, b)
		holdTrees(t, b, a)
		if Same(a, b) {
			same++
		}
		_, err := Diff(a, b)
		told[err]++
	}
	if same < 300 || told[api.OK] < 600 || told[api.ErrRoot] < 100 || told[api.ErrBadChange] < 100 || told[api.ErrOwnValue] < 5 {
		t.Errorf("%d were the same; the differences were told as %v", same, told)
	}
}
