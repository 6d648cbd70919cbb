package patch

import (
	"testing"

	"roster/api"
)

// modifyCase is changes of one entry, and what it has then, or why they are refused.
type modifyCase struct {
	changes []api.Change
	want    string
	err     api.Errno
}

func does(want string, changes ...api.Change) modifyCase { return modifyCase{changes, want, api.OK} }

func fails(err api.Errno, changes ...api.Change) modifyCase { return modifyCase{changes, "", err} }

// holdModified holds what modifications make of the entry with this name.
func holdModified(t *testing.T, entries []api.Entry, name string, cases ...modifyCase) {
	t.Helper()
	for _, c := range cases {
		if c.err != api.OK {
			holdRefused(t, entries, changed(name, c.changes...), c.err)
			continue
		}
		holdAttrs(t, entries, changed(name, c.changes...), name, c.want)
	}
}

// P21.1: the chapter's example 4.
func TestExamplesModified(t *testing.T) {
	holdModified(t, example(), one,
		fails(api.ErrHasValue, to(0, "sn", "LEE")),
		does("cn[1] sn[Lee|Bo]", to(0, "sn", "Bo")),
		does("cn[1]", to(1, "sn", "lee")),
		fails(api.ErrNoValue, to(1, "mail")),
		does("cn[1]", to(2, "sn")),
		fails(api.ErrHasValue, to(2, "sn", "Bo", "bo")),
		fails(api.ErrOwnValue, to(1, "cn")),
		does("cn[one|1] sn[Lee]", to(2, "cn", "one", "1")),
		does("sn[Lee] cn[1]", to(1, "cn", "1"), to(0, "cn", "1")))
	tree := grown(t, example()...)
	if made, _ := Apply(tree, changed(one, to(1, "cn", "1"), to(0, "cn", "1"))); !Same(made, tree) {
		t.Errorf("taken away and given back, it isn't the same: %s", shown(made))
	}
}

// P21.1: entries that aren't there; the root may be modified.
func TestModifyWhich(t *testing.T) {
	for _, name := range []string{"o=y", "", "cn=1", "cn=2,ou=a,o=x", "cn=1,cn=1,ou=a,o=x"} {
		holdRefused(t, example(), changed(name), api.ErrNoEntry)
		holdRefused(t, example(), changed(name, to(1, "none")), api.ErrNoEntry)
	}
	holdModified(t, example(), "o=x", does("o[x] sn[a]", to(0, "sn", "a")), fails(api.ErrOwnValue, to(2, "o", "y")), does("o[X]", to(2, "O", "X")))
	holdModified(t, []api.Entry{having("", "o", "x")}, "", does("o[y]", to(2, "o", "y")), does("sn[y]", to(2, "o"), to(0, "sn", "y")), fails(api.ErrOwnValue, to(1, "o")))
	// The name of the change is no more than a name: the entry keeps its own, with its line and key.
	tree := grown(t, example()...)
	made, err := Apply(tree, api.ChangeRecord{Line: 9, Kind: api.ModifyEntry, Name: "CN=1, OU=A, O=X", Changes: []api.Change{to(0, "sn", "Bo")}})
	if err != api.OK || made.Entry(2).Name != one || made.Entry(2).Line != tree.Entry(2).Line || told(made.Entry(2).Key) != told(tree.Entry(2).Key) {
		t.Errorf("the entry became %d, %s", err, told(made.Entry(2)))
	}
	if none, err := Apply(tree, changed(one)); err != api.OK || shown(none) != shown(tree) {
		t.Errorf("no changes: %d, %s", err, shown(none))
	}
}

// P21.1: values that are added.
func TestModifyAdds(t *testing.T) {
	holdModified(t, example(), one,
		does("cn[1] sn[Lee|a|b]", to(0, "sn", "a", "b")),
		does("cn[1] sn[Lee|a|b]", to(0, "SURNAME", "a"), to(0, "2.5.4.4", "b")),
		does("cn[1|2] sn[Lee]", to(0, "commonName", "2")),
		does("cn[1] sn[Lee] Mail[a|b]", to(0, "Mail", "a", "b")),
		does("cn[1] sn[Lee] Mail[a|b]", to(0, "Mail", "a"), to(0, "rfc822Mailbox", "b")),
		does("cn[1] sn[Lee] surname;B;a(sn;a;b)[Lee]", to(0, "surname;B;a", "Lee")),
		does("cn[1] sn[Lee] x-odd[a|A| a]", to(0, "x-odd", "a", "A", " a")),
		does("cn[1] sn[Lee] uidNumber[7|07|x]", to(0, "uidNumber", "7", "07", "x")),
		does("cn[1] sn[Lee|] mail[]", to(0, "sn", ""), to(0, "mail", "")),
		does("cn[1] sn[Lee] dn;x[a]", to(0, "dn;x", "a")),
		fails(api.ErrHasValue, to(0, "sn", "Lee")),
		fails(api.ErrHasValue, to(0, "surname", "  lEE ")),
		fails(api.ErrHasValue, to(0, "sn", "a", "lee")),
		fails(api.ErrHasValue, to(0, "sn", "a", "b", "A")),
		fails(api.ErrHasValue, to(0, "sn", "a"), to(0, "sn", "A")),
		fails(api.ErrHasValue, to(0, "mail", "a", "A")),
		fails(api.ErrHasValue, to(0, "x-odd", "a", "a")),
		fails(api.ErrHasValue, to(0, "uidNumber", "07", "07")),
		fails(api.ErrHasValue, to(0, "sn", "", "")),
		fails(api.ErrHasValue, to(0, "cn", "2"), to(0, "cn", "1")))
}

// P21.1: values that are deleted, and whole attributes.
func TestModifyDeletes(t *testing.T) {
	entries := append(example(), having("cn=2,ou=a,o=x", "cn", "2", "sn", "a", "sn", "b", "Surname", "c", "sn;x", "a", "x-odd", "v"))
	const two = "cn=2,ou=a,o=x"
	holdModified(t, entries, two,
		does("cn[2] sn[a|c] sn;x[a] x-odd[v]", to(1, "sn", "B")),
		does("cn[2] sn[b] sn;x[a] x-odd[v]", to(1, "SurName", "c", "a")),
		does("cn[2] sn;x[a] x-odd[v]", to(1, "sn", "a", "b", "c")),
		does("cn[2] sn;x[a] x-odd[v]", to(1, "2.5.4.4")),
		does("cn[2] sn[a|b|c] x-odd[v]", to(1, "SN;X")),
		does("cn[2] sn[a|b|c] x-odd[v]", to(1, "sn;x", "A")),
		does("cn[2] sn[a|b|c] sn;x[a]", to(1, "X-odd")),
		does("cn[2]", to(1, "sn"), to(1, "sn;x"), to(1, "x-odd", "v")),
		does("cn[2] sn;x[a] x-odd[v] SN[B]", to(1, "sn"), to(0, "SN", "B")),
		does("cn[2] sn[a|c|b] sn;x[a] x-odd[v]", to(1, "sn", "b"), to(0, "SN", "b")),
		fails(api.ErrNoValue, to(1, "sn", "d")),
		fails(api.ErrNoValue, to(1, "sn", "a", "d")),
		fails(api.ErrNoValue, to(1, "sn", "a", "A")),
		fails(api.ErrNoValue, to(1, "sn", "a", "b", "c", "a")),
		fails(api.ErrNoValue, to(1, "x-odd", "V")),
		fails(api.ErrNoValue, to(1, "name")),
		fails(api.ErrNoValue, to(1, "sn;y")),
		fails(api.ErrNoValue, to(1, "cn;x", "2")),
		fails(api.ErrNoValue, to(1, "mail", "")),
		fails(api.ErrNoValue, to(1, "sn"), to(1, "sn")),
		fails(api.ErrNoValue, to(1, "sn", "a", "b", "c"), to(1, "sn")),
		fails(api.ErrNoValue, to(1, "sn"), to(1, "sn", "a")))
}

// P21.1: values that are replaced.
func TestModifyReplaces(t *testing.T) {
	holdModified(t, example(), one,
		does("cn[1] sn[a]", to(2, "sn", "a")),
		does("cn[1] sn[LEE|a]", to(2, "SURNAME", "LEE", "a")),
		does("cn[1]", to(2, "2.5.4.4")),
		does("cn[1] sn[Lee]", to(2, "mail")),
		does("cn[1] sn[Lee]", to(2, "sn;x")),
		does("cn[1] sn[Lee] Mail[b|a]", to(2, "Mail", "b", "a")),
		does("cn[1] sn[Lee] Mail[b]", to(2, "Mail", "a"), to(2, "mail", "b")),
		does("cn[1] sn[a|b]", to(2, "sn", "a"), to(0, "sn", "b")),
		does("cn[1] SN[a]", to(2, "sn"), to(2, "SN", "a")),
		does("cn[ 1 ] sn[Lee]", to(2, "cn", " 1 ")),
		does("cn[1] sn[Lee] x-odd[a|A]", to(2, "x-odd", "a", "A")),
		fails(api.ErrHasValue, to(2, "sn", "a", "b", "A")),
		fails(api.ErrHasValue, to(2, "mail", "a", "A")),
		fails(api.ErrHasValue, to(2, "x-odd", "a", "b", "a")),
		fails(api.ErrHasValue, to(2, "uidNumber", "x", "x")),
		fails(api.ErrOwnValue, to(2, "cn", "2")),
		fails(api.ErrOwnValue, to(2, "cn")),
		fails(api.ErrOwnValue, to(2, "cn"), to(2, "cn;x", "1")))
}

// P21.1: of several changes the first that can't be done is told, ahead of what is wrong with the entry then.
func TestFirstChangeRefused(t *testing.T) {
	holdModified(t, example(), one,
		fails(api.ErrNoValue, to(1, "cn"), to(1, "sn"), to(1, "mail")),
		fails(api.ErrHasValue, to(1, "cn"), to(0, "sn", "Lee"), to(1, "mail")),
		fails(api.ErrNoValue, to(0, "sn", "a"), to(1, "mail"), to(0, "sn", "a")),
		fails(api.ErrHasValue, to(0, "sn", "a"), to(0, "sn", "a"), to(1, "mail")),
		fails(api.ErrHasValue, to(0, "mail", "a"), to(2, "sn", "b", "b"), to(1, "mail", "b")),
		fails(api.ErrOwnValue, to(1, "cn"), to(1, "sn")),
		fails(api.ErrOwnValue, to(1, "cn"), to(1, "sn"), to(0, "changetype", "a")))
	// Nothing is left of the changes ahead of it.
	tree := grown(t, example()...)
	if made, err := Apply(tree, changed(one, to(1, "sn"), to(0, "mail", "a"), to(1, "none"))); made != nil || err != api.ErrNoValue || shown(tree) != shown(grown(t, example()...)) {
		t.Errorf("the tree became %s, with %d", shown(tree), err)
	}
}

// P21.1: the values that the name needs; those of the type dn it doesn't.
func TestOwnValues(t *testing.T) {
	entries := append(example(), having("cn=A+sn=B,ou=b,o=x", "mail", "m"), having("dn=1,ou=b,o=x", "sn", "a"), having("dn=1+cn=2,ou=b,o=x", "sn", "a"), having("labeledURI=U,ou=b,o=x", "sn", "a"), having("commonName=c,ou=b,o=x", "sn", "a"))
	holdModified(t, entries, "cn=A+sn=B,ou=b,o=x",
		does("mail[m] cn[a] sn[B]", to(2, "cn", "a")),
		does("cn[A] sn[B]", to(1, "mail")),
		does("cn[A] sn[b]", to(1, "mail"), to(1, "sn"), to(0, "sn", "b")),
		fails(api.ErrOwnValue, to(1, "cn")), fails(api.ErrOwnValue, to(1, "sn", "b")), fails(api.ErrOwnValue, to(2, "sn", "A")),
		fails(api.ErrOwnValue, to(1, "sn"), to(0, "sn;x", "B")), fails(api.ErrOwnValue, to(1, "sn"), to(0, "name", "B")))
	holdModified(t, entries, "dn=1,ou=b,o=x", does("mail[m]", to(1, "sn"), to(0, "mail", "m")), fails(api.ErrOwnValue, to(1, "sn")), fails(api.ErrOwnValue, to(2, "sn")))
	holdModified(t, entries, "dn=1+cn=2,ou=b,o=x", does("cn[2]", to(1, "sn")), fails(api.ErrOwnValue, to(1, "cn")))
	// A name's key doesn't ask for case, but the value's syntax may.
	holdModified(t, entries, "labeledURI=U,ou=b,o=x", does("sn[a] labeledURI[V|U]", to(2, "labeleduri", "V", "U")), fails(api.ErrOwnValue, to(2, "labeledURI", "u")))
	holdModified(t, entries, "commonName=c,ou=b,o=x", does("sn[a] commonName(cn)[d|C]", to(2, "cn", "d", "C")), fails(api.ErrOwnValue, to(2, "cn", "d")))
}

// P21.1: reserved words that are left alone, or left first.
func TestReservedWordsLeft(t *testing.T) {
	entries := []api.Entry{having("dn=r", "sn", "a", "changetype", "b", "mail", "c", "Control", "d")}
	holdModified(t, entries, "dn=r",
		does("mail[c] changetype[b] Control[d]", to(1, "sn")),
		does("mail[x] changetype[b] Control[d]", to(1, "sn"), to(2, "mail", "x")),
		does("sn[a] changetype[b] Control[d]", to(1, "mail")),
		does("mail[z] changetype[b] Control[d]", to(1, "sn"), to(1, "mail"), to(0, "mail", "z")),
		does("sn[y] changetype[b] Control[d]", to(1, "sn"), to(1, "mail"), to(0, "sn", "y")),
		does("sn[a] changetype[x] mail[c]", to(2, "ChangeType", "x"), to(1, "control")),
		does("sn[a] mail[c] Control[d]", to(1, "changetype")),
		fails(api.ErrBadChange, to(1, "sn"), to(1, "mail")),
		fails(api.ErrBadChange, to(1, "sn"), to(1, "mail"), to(1, "control")),
		fails(api.ErrBadChange, to(1, "sn"), to(1, "mail"), to(1, "changetype")),
		fails(api.ErrOwnValue, to(1, "sn"), to(1, "mail"), to(1, "changetype"), to(1, "control")),
		does("changetype;x[a] changetype[b] Control[d]", to(1, "sn"), to(1, "mail"), to(0, "changetype;x", "a")))
	holdModified(t, []api.Entry{having("control=r", "sn", "a")}, "control=r", fails(api.ErrBadChange, to(1, "sn")), fails(api.ErrOwnValue, to(1, "control")), fails(api.ErrOwnValue, to(1, "control"), to(1, "sn")), does("sn[a] control[s|r]", to(2, "control", "s", "r")))
}

// P21.1: entries that no Make made: one Canon several times, and attributes without a value.
func TestModifyOdd(t *testing.T) {
	several := []api.Entry{odd("", "", at("sn", "sn", "a", "A"), at("mail", "mail"), at("Surname", "sn", "b", "a"), at("SN", "sn"), at("o", "o", "x"))}
	holdModified(t, several, "",
		does("sn[a|A] mail[] Surname(sn)[b|a] SN[] o[x]"),
		does("sn[a|A|c] mail[] Surname(sn)[b|a] SN[] o[x]", to(0, "sn", "c")),
		fails(api.ErrHasValue, to(0, "sn", "B")),
		fails(api.ErrHasValue, to(0, "sn", "c", "B")),
		does("mail[] o[x]", to(1, "sn")),
		does("mail[] Surname(sn)[b] o[x]", to(1, "sn", "a")),
		does("sn[a|A] mail[] Surname(sn)[a] o[x]", to(1, "sn", "b")),
		does("mail[] o[x]", to(1, "sn", "b", "a")),
		fails(api.ErrNoValue, to(1, "sn", "a", "a")),
		fails(api.ErrNoValue, to(1, "sn", "c")),
		does("mail[] o[x]", to(2, "sn")),
		does("sn[c] mail[] o[x]", to(2, "surname", "c")),
		does("sn[b|a] mail[] o[x]", to(2, "surname", "b", "a")),
		does("sn[a|A] mail[m] Surname(sn)[b|a] SN[] o[x]", to(0, "MAIL", "m")),
		does("sn[a|A] Surname(sn)[b|a] SN[] o[x]", to(1, "mail")),
		fails(api.ErrNoValue, to(1, "mail", "")),
		does("sn[a|A] mail[m] Surname(sn)[b|a] SN[] o[x]", to(2, "rfc822Mailbox", "m")),
		does("sn[a|A] Surname(sn)[b|a] SN[] o[x]", to(2, "mail")),
		does("sn[a|A] mail[] Surname(sn)[b|a] SN[]", to(1, "o")),
		does("mail[] Surname(sn)[b] o[x|y]", to(1, "sn", "A"), to(0, "o", "y")),
		fails(api.ErrOwnValue, to(1, "o"), to(1, "sn")))
	twice := []api.Entry{odd("o=x", "o=x", at("O", "o"), at("o", "o", "y"), at("sn", "sn"), at("Organization", "o", "X"))}
	holdModified(t, twice, "o=x",
		does("O[] o[y] sn[] Organization(o)[X]"),
		does("O[z] o[y] sn[] Organization(o)[X]", to(0, "o", "z")),
		does("sn[] Organization(o)[X|y]", to(1, "o", "y"), to(0, "o", "y")),
		fails(api.ErrOwnValue, to(1, "o", "x")),
		fails(api.ErrOwnValue, to(2, "o", "y")),
		does("O[x] sn[]", to(2, "o", "x")))
}

// P21.1: entries that no Make made: what a name needs, and what a record can begin with, is asked whatever the changes are, of Name, Canon and Desc as they stand.
func TestModifyOddNames(t *testing.T) {
	root := odd("o=x", "o=x", at("o", "o", "x"))
	named := func(name string, attrs ...api.Attr) []api.Entry {
		return []api.Entry{root, odd(name, "o=x/cn=1", attrs...)}
	}
	for _, c := range []struct {
		entries []api.Entry
		err     api.Errno
	}{
		{named("cn=1,o=x", at("cn", "cn", "1")), api.OK},
		{named("cn=1,o=x", at("sn", "sn", "1")), api.ErrOwnValue},
		{named("cn=1,o=x"), api.ErrOwnValue},
		{named("cn=1,o=x", at("cn", "cn")), api.ErrOwnValue},
		{named("cn=1,o=x", at("cn", "CN", "1")), api.ErrOwnValue},
		{named("cn=1,o=x", at("x", "cn", "1")), api.OK},
		{named("cn=1,o=x", at("cn", "sn", "1")), api.ErrOwnValue},
		{named("sn=1", at("sn", "sn", "1")), api.OK},
		{named("sn=1", at("cn", "cn", "1")), api.ErrOwnValue},
		{named("no name", at("sn", "sn", "1")), api.OK},
		{named("", at("sn", "sn", "1")), api.OK},
		{named("", at("sn", "sn")), api.ErrOwnValue},
		{named(""), api.ErrOwnValue},
		{named("dn=1", at("sn", "sn", "1")), api.OK},
		{named("", at("control", "sn", "1")), api.ErrBadChange},
		{named("", at("control", "sn", "1"), at("CHANGETYPE", "mail", "1")), api.ErrBadChange},
		{named("", at("sn", "control", "1")), api.OK},
		{named("", at("dn", "dn", "1")), api.OK},
		{named("", at("no desc", "no canon", "1")), api.OK},
	} {
		for _, changes := range [][]api.Change{nil, {to(2, "none")}, {to(0, "none", "a"), to(1, "none", "a")}, {to(0, "none", "a"), to(1, "none")}} {
			tree := grown(t, c.entries...)
			made, err := Apply(tree, changed("cn=1,o=x", changes...))
			if err != c.err || err == api.OK && shown(made) != shown(tree) {
				t.Errorf("%s: %d, %s; want %d", told(c.entries[1]), err, shown(made), c.err)
			}
			holdAll(t, tree, []api.ChangeRecord{changed("cn=1,o=x", changes...)})
		}
	}
	// Put right by the Desc, of an attribute without a value too.
	front := named("no name", at("Control", "sn", "a"), at("changeType", "x"), at("mail", "mail"), at("o", "o"))
	holdAttrs(t, front, changed("cn=1,o=x"), "no name", "mail[] Control(sn)[a] changeType(x)[] o[]")
	holdAttrs(t, front, changed("cn=1,o=x", to(1, "mail")), "no name", "o[] Control(sn)[a] changeType(x)[]")
	holdRefused(t, front, changed("cn=1,o=x", to(1, "mail"), to(1, "o")), api.ErrBadChange)
	holdRefused(t, front, changed("cn=1,o=x", to(1, "sn")), api.ErrOwnValue)
	// A Canon that is no description is one of its own, and its values are equal as bytes alone.
	strange := named("no name", at("sn", "sn", "a"), at("SN", "SN", "a"), at("s n", "s n", "a", "A"))
	holdAttrs(t, strange, changed("cn=1,o=x", to(1, "sn")), "no name", "SN(SN)[a] s n[a|A]")
	holdRefused(t, strange, changed("cn=1,o=x", to(0, "SN", "A")), api.ErrHasValue)
}
