package patch

import (
	"strings"
	"testing"

	"roster/api"
)

// P21.1: the chapter's example 5.
func TestExamplesRenamed(t *testing.T) {
	holdApplied(t, example(), called(one, "CN=One", true), "o=x: o[x]\nou=a,o=x: ou[a]\nCN=One,ou=a,o=x: sn[Lee] CN[One]\nou=b,o=x: ou[b]\n")
	holdApplied(t, example(), called(one, "CN=One", false), "o=x: o[x]\nou=a,o=x: ou[a]\nCN=One,ou=a,o=x: cn[1|One] sn[Lee]\nou=b,o=x: ou[b]\n")
}

// P21.1: the chapter's examples 6 and 7.
func TestExamplesMoved(t *testing.T) {
	for _, old := range []bool{true, false} {
		holdNames(t, example(), called("ou=a,o=x", "ou=c", old), "o=x / ou=b,o=x / ou=c,o=x / cn=1,ou=c,o=x")
		holdNames(t, example(), called("ou=a,o=x", "ou=a", old, "OU=B,o=x"), "o=x / ou=b,o=x / ou=a,ou=b,o=x / cn=1,ou=a,ou=b,o=x")
		holdRefused(t, example(), called("ou=a,o=x", "ou=a", old, one), api.ErrBeneath)
		holdRefused(t, example(), called("ou=a,o=x", "ou=B", old), api.ErrExists)
		holdApplied(t, example(), called("ou=a,o=x", "OU=A", old), "o=x: o[x]\nOU=A,o=x: ou[a]\ncn=1,OU=A,o=x: cn[1] sn[Lee]\nou=b,o=x: ou[b]\n")
		holdRefused(t, example(), called("o=x", "o=y", old), api.ErrRoot)
		holdRefused(t, example(), called("ou=a,o=x", "ou=c,o=x", old), api.ErrBadChange)
		holdRefused(t, example(), called("ou=a,o=x", "", old), api.ErrBadChange)
	}
}

// P21.1: the errors of a renaming, in their order.
func TestRenameRefused(t *testing.T) {
	for _, c := range []struct {
		c   api.ChangeRecord
		err api.Errno
	}{
		{called("o=z", "ou=b", true), api.ErrNoEntry}, {called("", "ou=b", true), api.ErrNoEntry}, {called("ou=z,o=x", "ou=b", true, "o=none"), api.ErrNoEntry}, {called("ou=z,o=x", "ou=b", true, "ou=z,o=x"), api.ErrNoEntry},
		{called("o=x", "o=x", true), api.ErrRoot}, {called("O=X", "o=x", true, "o=none"), api.ErrRoot}, {called("o=x", "o=x", true, "o=x"), api.ErrRoot}, {called("o=x", "o=x", true, one), api.ErrRoot}, {called("o=x", "ou=a", true, "o=x"), api.ErrRoot},
		{called(one, "cn=2", true, "o=y"), api.ErrNoParent}, {called(one, "cn=2", true, ""), api.ErrNoParent}, {called(one, "cn=2", true, "cn=2,ou=a,o=x"), api.ErrNoParent}, {called("ou=a,o=x", "cn=2", true, "cn=9,ou=a,o=x"), api.ErrNoParent},
		{called("ou=a,o=x", "ou=a", true, "ou=a,o=x"), api.ErrBeneath}, {called("ou=a,o=x", "ou=z", true, "OU=A,O=X"), api.ErrBeneath}, {called("ou=a,o=x", "ou=z", true, one), api.ErrBeneath}, {called("ou=a,o=x", "cn=1", true, "ou=a,o=x"), api.ErrBeneath}, {called(one, "cn=1", true, one), api.ErrBeneath},
		{called("ou=a,o=x", "ou=b", true, "o=x"), api.ErrExists}, {called(one, "ou=a", true, "o=x"), api.ErrExists}, {called("ou=b,o=x", "CN=1", false, "ou=a,o=x"), api.ErrExists}, {called("ou=a,o=x", "ou=\\62", false), api.ErrExists},
	} {
		holdRefused(t, example(), c.c, c.err)
	}
	empty := []api.Entry{having("", "o", "x"), having("o=x", "o", "x"), having("o=y", "o", "y")}
	holdRefused(t, empty, called("", "o=z", true), api.ErrRoot)
	holdRefused(t, empty, called("o=x", "o=y", true), api.ErrExists)
	holdRefused(t, empty, called("o=x", "o=y", true, ""), api.ErrExists)
	// A root whose key has two parts: there is nothing above it to stand beneath.
	two := []api.Entry{having("ou=a,o=x", "ou", "a"), having("cn=1,ou=a,o=x", "cn", "1")}
	holdRefused(t, two, called("ou=a,o=x", "ou=b", true), api.ErrRoot)
	holdRefused(t, two, called("cn=1,ou=a,o=x", "cn=2", true, "o=x"), api.ErrNoParent)
	holdRefused(t, two, called("o=x", "o=y", true), api.ErrNoEntry)
}

// P21.1: beneath the empty name a name is its part alone; and away from there.
func TestRenameBeneathTheEmptyName(t *testing.T) {
	empty := []api.Entry{having("", "o", "x"), having("o=x", "o", "x"), having("ou=a,o=x", "ou", "a"), having("cn=1,ou=a,o=x", "cn", "1"), having("o=y", "o", "y")}
	holdNames(t, empty, called("o=x", "o=z", true), " / o=y / o=z / ou=a,o=z / cn=1,ou=a,o=z")
	holdNames(t, empty, called("o=x", "o=a", true, ""), " / o=a / ou=a,o=a / cn=1,ou=a,o=a / o=y")
	holdNames(t, empty, called("ou=a,o=x", "ou=a", true, ""), " / o=x / o=y / ou=a / cn=1,ou=a")
	holdNames(t, empty, called("o=x", "o=x", true, "o=y"), " / o=y / o=x,o=y / ou=a,o=x,o=y / cn=1,ou=a,o=x,o=y")
	holdNames(t, empty, called("cn=1,ou=a,o=x", " cn = 1 ", true, ""), " /  cn = 1  / o=x / ou=a,o=x / o=y")
}

// P21.1: the same key in another spelling, with the superior that it has too.
func TestRenameToTheSame(t *testing.T) {
	holdNames(t, example(), called("OU=A,O=X", " organizationalUnitName = A ", true), "o=x /  organizationalUnitName = A ,o=x / cn=1, organizationalUnitName = A ,o=x / ou=b,o=x")
	holdNames(t, example(), called("ou=a,o=x", "OU=\\61", true, "O=X"), "o=x / OU=\\61,o=x / cn=1,OU=\\61,o=x / ou=b,o=x")
	holdNames(t, example(), called(one, "cn=1", true), "o=x / ou=a,o=x / "+one+" / ou=b,o=x")
	holdAttrs(t, example(), called(one, "commonName=1", true), "commonName=1,ou=a,o=x", "cn[1] sn[Lee]")
	// One key, but values that are not equal.
	exact := append(example(), having("labeledURI=U,o=x", "sn", "a"))
	holdAttrs(t, exact, called("labeledURI=U,o=x", "LabeledURI=u", true), "LabeledURI=u,o=x", "sn[a] LabeledURI[u]")
	holdAttrs(t, exact, called("labeledURI=U,o=x", "LabeledURI=u", false), "LabeledURI=u,o=x", "sn[a] labeledURI[U|u]")
}

// deepTree has entries at several depths, whose names have escapes, spaces about their commas, and other names of their parents.
func deepTree() []api.Entry {
	return []api.Entry{
		having("o=x", "o", "x"),
		having(`ou=a\,b , O=X`, "ou", "a,b"),
		having(`cn=\\,OU=A\2cB,  o=x`, "cn", `\`),
		having(`cn=1\\\,+sn=2 ,  cn=\5c, ou=a\,b, o = x`, "sn", "2"),
		having(`CN=#04024869,cn=1\\\,+sn=2,cn=\\,ou=a\,b,o=x`, "mail", "m"),
		having(`cn = \ y\ ,ou=a\,b,o=x`, "sn", "y"),
		having(`ou=b , o=x`, "ou", "b"),
	}
}

// P21.1: entries beneath at several depths: each keeps its own text, and has its parent's new name behind.
func TestRenameBeneath(t *testing.T) {
	made, err := Apply(grown(t, deepTree()...), called(`ou=A\,B,o=x`, `OU = c\+d `, true))
	const c = `OU = c\+d , O=X`
	want := []string{"o=x", "ou=b , o=x", c, `cn=\\,` + c, `cn=1\\\,+sn=2 ,cn=\\,` + c, `CN=#04024869,cn=1\\\,+sn=2 ,cn=\\,` + c, `cn = \ y\ ,` + c}
	if err != api.OK || namesOf(made) != strings.Join(want, " / ") {
		t.Errorf("the names are, with %d, %s", err, namesOf(made))
	}
	for _, name := range []string{`ou=a\,b,o=x`, `cn=\\,ou=a\,b,o=x`, `cn=1\\\,+sn=2,cn=\\,ou=a\,b,o=x`, `cn=Hi,cn=1\\\,+sn=2,cn=\\,ou=a\,b,o=x`, `cn=y,ou=a\,b,o=x`, "ou=b,o=x"} {
		for _, part := range []string{"cn=z", `sn=\,`, `cn=a\\`, "ou=b", `ou=a\2Cb`, `cn=\5c`, " dn = q", "cn=a+sn=b"} {
			for _, old := range []bool{true, false} {
				holdAll(t, grown(t, deepTree()...), []api.ChangeRecord{called(name, part, old)})
				for _, superior := range []string{"o=x", "OU=B,O=X", `ou=a\,b,o=x`, `cn=\\,ou=a\,b,o=x`, `cn=y,ou=a\,b,o=x`} {
					holdAll(t, grown(t, deepTree()...), []api.ChangeRecord{called(name, part, old, superior)})
				}
			}
		}
	}
}

// P21.1: all else of what stands beneath stays, and what stands elsewhere, and the line.
func TestRenameKeeps(t *testing.T) {
	for _, c := range []api.ChangeRecord{called("ou=a,o=x", "ou=aa", true), called("ou=a,o=x", "ou=aa", false, "O=X")} {
		c.Line = 5
		before := grown(t, example()...)
		made, err := Apply(before, c)
		if err != api.OK || made.Len() != 4 {
			t.Fatalf("%s: %d", told(c), err)
		}
		for n := range 4 {
			was, is := before.Entry(n), made.Entry(n)
			if is.Line != was.Line || n != 1 && told(is.Attrs) != told(was.Attrs) || n%3 == 0 && told(is) != told(was) {
				t.Errorf("%s: %s became %s", told(c), told(was), told(is))
			}
		}
	}
}

// P21.1: names that get too long, or have too many parts, of the entry itself or of one beneath it.
func TestRenameTooLong(t *testing.T) {
	filled := func(n int) string { return "cn=" + strings.Repeat("a", n-3) }
	// ",ou=a,o=x" is nine bytes; ",cn=1" of the one beneath five more.
	holdNames(t, example(), called(one, filled(api.MaxName-9), true), "o=x / ou=a,o=x / "+filled(api.MaxName-9)+",ou=a,o=x / ou=b,o=x")
	holdRefused(t, example(), called(one, filled(api.MaxName-8), true), api.ErrBadChange)
	holdNames(t, example(), called("ou=a,o=x", filled(api.MaxName-9), true), "o=x / "+filled(api.MaxName-9)+",o=x / cn=1,"+filled(api.MaxName-9)+",o=x / ou=b,o=x")
	holdRefused(t, example(), called("ou=a,o=x", filled(api.MaxName-8), true), api.ErrBadChange)
	holdNames(t, example(), called("ou=b,o=x", filled(api.MaxName-4), true), "o=x / "+filled(api.MaxName-4)+",o=x / ou=a,o=x / "+one)
	holdRefused(t, example(), called("ou=b,o=x", filled(api.MaxName-3), true), api.ErrBadChange)
	// A chain of as many parts as a name has, and one entry beside it.
	chain := []api.Entry{having("o=x", "o", "x"), having("ou=b,o=x", "ou", "b"), having("cn=c,ou=b,o=x", "cn", "c")}
	name := "o=x"
	for range api.MaxParts - 3 {
		name = "l=a," + name
		chain = append(chain, having(name, "l", "a"))
	}
	holdAll(t, grown(t, chain...), []api.ChangeRecord{called("cn=c,ou=b,o=x", "cn=d", true, name)})
	if made, err := Apply(grown(t, chain...), called("cn=c,ou=b,o=x", "cn=d", true, name)); err != api.OK || made.Len() != len(chain) {
		t.Errorf("a name of %d parts: %d", api.MaxParts-1, err)
	}
	if made, err := Apply(grown(t, chain...), called("ou=b,o=x", "ou=d", true, name)); err != api.OK || made.Len() != len(chain) {
		t.Errorf("a name of %d parts: %d", api.MaxParts, err)
	}
	chain = append(chain, having("l=a,"+name, "l", "a"))
	holdRefused(t, chain, called("ou=b,o=x", "ou=d", true, "l=a,"+name), api.ErrBadChange)
	holdRefused(t, chain, called("ou=b,o=x", "dn=d", true, "l=a,"+name), api.ErrBadChange)
}

// P21.1: what a renaming does with the values.
func TestRenamedAttributes(t *testing.T) {
	entries := []api.Entry{
		having("o=x", "o", "x"),
		having("cn=A+sn=B,o=x", "mail", "m", "cn", "c", "cn;x", "a"),
		having("dn=1,o=x", "sn", "a"),
		having("DN=2+cn=3,o=x", "cn", "3"),
		having("uidNumber=07,o=x", "uidNumber", "7"),
	}
	for _, c := range []struct {
		name, part string
		old        bool
		want       string
	}{
		{"cn=A+sn=B,o=x", "cn=d", true, "mail[m] cn[c|d] cn;x[a]"},
		{"cn=A+sn=B,o=x", "cn=d", false, "mail[m] cn[c|A|d] cn;x[a] sn[B]"},
		{"cn=A+sn=B,o=x", "cn=a", true, "mail[m] cn[c|A] cn;x[a]"},
		{"cn=A+sn=B,o=x", "commonName=\\ a ", true, "mail[m] cn[c|A] cn;x[a]"},
		{"cn=A+sn=B,o=x", "surname=b", true, "mail[m] cn[c] cn;x[a] sn[B]"},
		{"cn=A+sn=B,o=x", "sn=A", true, "mail[m] cn[c] cn;x[a] sn[A]"},
		{"cn=A+sn=B,o=x", "cn=C", true, "mail[m] cn[c] cn;x[a]"},
		{"cn=A+sn=B,o=x", "cn=C", false, "mail[m] cn[c|A] cn;x[a] sn[B]"},
		{"cn=A+sn=B,o=x", "sn=B+cn=A", true, "mail[m] cn[c|A] cn;x[a] sn[B]"},
		{"cn=A+sn=B,o=x", "sn=A+cn=B", true, "mail[m] cn[c|B] cn;x[a] sn[A]"},
		{"cn=A+sn=B,o=x", "MAIL=M+X-odd=q", true, "mail[m] cn[c] cn;x[a] X-odd[q]"},
		{"cn=A+sn=B,o=x", "mail=n+l=q+c=r", true, "mail[m|n] cn[c] cn;x[a] l[q] c[r]"},
		{"cn=A+sn=B,o=x", "dn=q", true, "mail[m] cn[c] cn;x[a]"},
		{"cn=A+sn=B,o=x", "Dn=q", false, "mail[m] cn[c|A] cn;x[a] sn[B]"},
		{"cn=A+sn=B,o=x", "sn=", true, "mail[m] cn[c] cn;x[a] sn[]"},
		{"dn=1,o=x", "dn=2", true, "sn[a]"},
		{"dn=1,o=x", "cn=2+DN=q", true, "sn[a] cn[2]"},
		{"dn=1,o=x", "sn=A", true, "sn[a]"},
		{"DN=2+cn=3,o=x", "cn=4", true, "cn[4]"},
		{"DN=2+cn=3,o=x", "dn=4", false, "cn[3]"},
		{"DN=2+cn=3,o=x", "sn=4", true, "sn[4]"},
		{"uidNumber=07,o=x", "uidNumber=7", true, "uidNumber[7]"},
		{"uidNumber=07,o=x", "uidNumber=007", true, "uidNumber[7|007]"},
		{"uidNumber=07,o=x", "uidNumber=07", true, "uidNumber[7|07]"},
		{"uidNumber=07,o=x", "uidNumber=7", false, "uidNumber[7|07]"},
	} {
		holdAttrs(t, entries, called(c.name, c.part, c.old), c.part+",o=x", c.want)
		holdAttrs(t, entries, called(c.name, c.part, c.old, "O=X"), c.part+",o=x", c.want)
	}
	holdRefused(t, entries, called("DN=2+cn=3,o=x", "dn=4", true), api.ErrOwnValue)
	holdRefused(t, entries, called("DN=2+cn=3,o=x", "dn=1", true), api.ErrExists)
}

// P21.1: reserved words that a renaming leaves alone, or first.
func TestRenameReservedWords(t *testing.T) {
	entries := []api.Entry{having("o=x", "o", "x"), having("cn=1,o=x", "cn", "1", "changetype", "a", "sn", "b"), having("cn=2,o=x", "cn", "2", "Control", "a"), having("control=3,o=x", "cn", "b")}
	holdAttrs(t, entries, called("cn=1,o=x", "sn=B", true), "sn=B,o=x", "sn[b] changetype[a]")
	holdAttrs(t, entries, called("cn=1,o=x", "changetype=B", true), "changetype=B,o=x", "sn[b] changetype[a|B]")
	holdAttrs(t, entries, called("cn=2,o=x", "cn=4", true), "cn=4,o=x", "cn[4] Control[a]")
	holdAttrs(t, entries, called("cn=2,o=x", "changetype=4+cn=2", true), "changetype=4+cn=2,o=x", "cn[2] Control[a] changetype[4]")
	holdAttrs(t, entries, called("control=3,o=x", "changetype=4", true), "changetype=4,o=x", "cn[b] changetype[4]")
	holdRefused(t, entries, called("cn=2,o=x", "control=4", true), api.ErrBadChange)
	holdRefused(t, entries, called("cn=2,o=x", "changetype=4+dn=2", true), api.ErrBadChange)
	holdRefused(t, entries, called("cn=2,o=x", "dn=4", true), api.ErrBadChange)
	holdAttrs(t, entries, called("cn=2,o=x", "control=4", false), "control=4,o=x", "cn[2] Control[a|4]")
}

// P21.1: trees of entries that no Make made: keys and names that don't fit.
func TestRenameOddNames(t *testing.T) {
	value := at("sn", "sn", "a")
	root := odd("o=x", "o=x", value)
	for _, c := range []struct {
		entries []api.Entry
		c       api.ChangeRecord
		want    string // the names, or none
	}{
		{[]api.Entry{root, odd("cn=1,o=x", "o=x/cn=1", value)}, called("cn=1,o=x", "cn=2", true), "o=x / cn=2,o=x"},
		// Of the entry's name only the rest is asked for, and without a superior.
		{[]api.Entry{root, odd("no name,o=x", "o=x/cn=1", value)}, called("cn=1,o=x", "cn=2", true), "o=x / cn=2,o=x"},
		{[]api.Entry{root, odd(",o=x", "o=x/cn=1", value)}, called("cn=1,o=x", "cn=2", true), "o=x / cn=2,o=x"},
		{[]api.Entry{root, odd("no name", "o=x/cn=1", value)}, called("cn=1,o=x", "cn=2", true), "none"},
		{[]api.Entry{root, odd("", "o=x/cn=1", value)}, called("cn=1,o=x", "cn=2", true), "none"},
		{[]api.Entry{root, odd("cn=1,", "o=x/cn=1", value)}, called("cn=1,o=x", "cn=2", true), "none"},
		{[]api.Entry{root, odd("cn=1,o=y", "o=x/cn=1", value)}, called("cn=1,o=x", "cn=2", true), "none"},
		{[]api.Entry{root, odd("cn=1\\,o=x", "o=x/cn=1", value)}, called("cn=1,o=x", "cn=2", true), "none"},
		{[]api.Entry{root, odd("no name", "o=x/cn=1", value)}, called("cn=1,o=x", "cn=2", true, "o=x"), "o=x / cn=2,o=x"},
		{[]api.Entry{odd("o=y", "o=x", value), odd("cn=1,o=x", "o=x/cn=1", value)}, called("cn=1,o=x", "cn=2", true, "o=x"), "none"},
		{[]api.Entry{odd("o=y", "o=x", value), odd("cn=1,o=x", "o=x/cn=1", value)}, called("cn=1,o=x", "cn=2", true), "o=y / cn=2,o=x"},
		{[]api.Entry{odd("", "o=x", value), odd("cn=1,o=x", "o=x/cn=1", value)}, called("cn=1,o=x", "cn=2", true, "o=x"), "none"},
		// Of those beneath only the own text, but a key that no name has is one that the new name hasn't.
		{[]api.Entry{root, odd("cn=1,o=x", "o=x/cn=1", value), odd("cn=3,none", "o=x/cn=1/cn=3", value)}, called("cn=1,o=x", "cn=2", true), "o=x / cn=2,o=x / cn=3,cn=2,o=x"},
		{[]api.Entry{root, odd("cn=1,o=x", "o=x/cn=1", value), odd("cn=3", "o=x/cn=1/cn=3", value)}, called("cn=1,o=x", "cn=2", true), "o=x / cn=2,o=x / cn=3,cn=2,o=x"},
		{[]api.Entry{root, odd("cn=1,o=x", "o=x/cn=1", value), odd("cn=3", "o=x/cn=1/cn=4", value)}, called("cn=1,o=x", "cn=2", true), "none"},
		{[]api.Entry{root, odd("cn=1,o=x", "o=x/cn=1", value), odd("", "o=x/cn=1/cn=3", value)}, called("cn=1,o=x", "cn=2", true), "none"},
		{[]api.Entry{root, odd("cn=1,o=x", "o=x/cn=1", value), odd("cn=3\\", "o=x/cn=1/cn=3", value)}, called("cn=1,o=x", "cn=2", true), "none"},
		{[]api.Entry{root, odd("cn=1,o=x", "o=x/cn=1", value), odd("cn=3,cn=1,o=x", "o=x/cn=1/cn=3", value), odd("x", "o=x/cn=1/cn=3/CN=4", value)}, called("cn=1,o=x", "cn=2", true), "none"},
		{[]api.Entry{root, odd("cn=1,o=x", "o=x/cn=1", value), odd("CN=4", "o=x/cn=1/CN=4", value)}, called("cn=1,o=x", "cn=2", true), "none"},
		{[]api.Entry{root, odd("cn=1,o=x", "o=x/cn=1", value), odd("x", "o=x/none", value)}, called("cn=1,o=x", "cn=2", true), "o=x / cn=2,o=x / x"},
		// The names are looked at ahead of the values.
		{[]api.Entry{root, odd("no name", "o=x/cn=1")}, called("cn=1,o=x", "dn=2", true), "none"},
		{[]api.Entry{odd("", "", value), odd("x", "cn=1", value)}, called("cn=1", "cn=2", true), " / cn=2"},
		{[]api.Entry{odd("o=x", "", value), odd("x", "cn=1", value)}, called("cn=1", "cn=2", true, ""), "none"},
	} {
		if c.want == "none" {
			holdRefused(t, c.entries, c.c, api.ErrBadChange)
			continue
		}
		holdNames(t, c.entries, c.c, c.want)
	}
}

// P21.1: trees of entries that no Make made: values of one Canon in several attributes, attributes without values, own pairs that the entry hasn't.
func TestRenameOddAttributes(t *testing.T) {
	root := odd("o=x", "o=x", at("o", "o", "x"))
	for _, c := range []struct {
		attrs []api.Attr
		part  string
		old   bool
		want  string // "": ErrOwnValue; "219": ErrBadChange
	}{
		{[]api.Attr{at("sn", "sn", "a")}, "cn=2", true, "sn[a] cn[2]"},
		{[]api.Attr{at("sn", "sn", "a"), at("cn", "cn"), at("CN", "cn")}, "cn=2", true, "sn[a] cn[2]"},
		{[]api.Attr{at("sn", "sn", "a"), at("cn", "cn"), at("CN", "cn")}, "cn=2", false, "sn[a] cn[2] CN[]"},
		{[]api.Attr{at("sn", "sn", "a"), at("cn", "cn"), at("CN", "cn")}, "cn=1", true, "sn[a] cn[1] CN[]"},
		{[]api.Attr{at("cn", "cn"), at("CN", "cn", "3", " 1"), at("x", "cn", "1", "1"), at("y", "cn", "4")}, "cn=2", true, "CN[3|2] y(cn)[4]"},
		{[]api.Attr{at("cn", "cn"), at("CN", "cn", "3", " 1"), at("x", "cn", "1", "1"), at("y", "cn", "4")}, "cn=4", true, "CN[3] y(cn)[4]"},
		{[]api.Attr{at("cn", "cn"), at("CN", "cn", "3", " 1"), at("x", "cn", "1", "1"), at("y", "cn", "4")}, "cn=4", false, "cn[] CN[3| 1] x(cn)[1|1] y(cn)[4]"},
		{[]api.Attr{at("cn", "cn"), at("CN", "cn", "3", " 1"), at("x", "cn", "1", "1"), at("y", "cn", "4")}, "sn=4", true, "CN[3] y(cn)[4] sn[4]"},
		{[]api.Attr{at("cn", "CN", "1")}, "sn=4", true, "cn(CN)[1] sn[4]"},
		{[]api.Attr{at("cn", "sn", "1")}, "sn=1", true, "cn(sn)[1]"},
		{[]api.Attr{at("cn", "cn", "1"), at("sn", "sn")}, "dn=4", true, ""},
		{[]api.Attr{at("cn", "cn"), at("sn", "sn")}, "dn=4", false, ""},
		{nil, "dn=4", false, ""},
		{nil, "cn=4", true, "cn[4]"},
		{[]api.Attr{at("control", "sn", "a"), at("cn", "cn")}, "dn=4", true, "219"},
		{[]api.Attr{at("control", "sn", "a"), at("cn", "cn")}, "dn=4", false, "cn[] control(sn)[a]"},
		{[]api.Attr{at("control", "sn", "a"), at("cn", "cn")}, "sn=b", true, "219"},
		{[]api.Attr{at("control", "sn", "a"), at("changetype", "cn", "1")}, "l=b", true, "l[b] control(sn)[a]"},
	} {
		entries := []api.Entry{root, odd("cn=1,o=x", "o=x/cn=1", c.attrs...)}
		change := called("cn=1,o=x", c.part, c.old)
		switch c.want {
		case "":
			holdRefused(t, entries, change, api.ErrOwnValue)
		case "219":
			holdRefused(t, entries, change, api.ErrBadChange)
		default:
			holdAttrs(t, entries, change, c.part+",o=x", c.want)
		}
	}
	// A name that doesn't parse has no own pairs to be taken away.
	strange := []api.Entry{root, odd("cn=1;,o=x", "o=x/cn=1", at("cn", "cn", "1"))}
	holdAttrs(t, strange, called("cn=1,o=x", "sn=2", true), "sn=2,o=x", "cn[1] sn[2]")
	// Nor has the empty one; the own pairs are the Name's, not the Key's.
	holdAttrs(t, []api.Entry{root, odd("", "o=x/cn=1", at("cn", "cn", "1"))}, called("cn=1,o=x", "sn=2", true, "o=x"), "sn=2,o=x", "cn[1] sn[2]")
	holdAttrs(t, []api.Entry{root, odd("l=q,o=x", "o=x/cn=1", at("cn", "cn", "1"), at("l", "l", "q", "r"))}, called("cn=1,o=x", "sn=2", true), "sn=2,o=x", "cn[1] l[r] sn[2]")
}
