package patch

import (
	"slices"
	"strings"
	"testing"

	"roster/api"
)

// P21.1: the numbers of the errors are those of layer 21.
func TestErrorNumbers(t *testing.T) {
	all := []api.Errno{api.ErrExists, api.ErrNoEntry, api.ErrNoParent, api.ErrNotLeaf, api.ErrHasValue, api.ErrNoValue, api.ErrOwnValue, api.ErrBeneath, api.ErrRoot, api.ErrBadChange}
	for i, err := range all {
		if err != api.Errno(210+i) {
			t.Errorf("error %d is %d", 210+i, err)
		}
	}
}

// P21.1: each sort of change that is none is refused ahead of every other error: here no name is one that is there, and no superior.
func TestNoChange(t *testing.T) {
	long := "cn=" + strings.Repeat("a", api.MaxName)
	deep := strings.TrimSuffix(strings.Repeat("cn=a,", api.MaxParts+1), ",")
	var bad []api.ChangeRecord
	for _, kind := range []api.ChangeKind{-1, 4, 5, -1 << 40, 1 << 40} {
		for _, name := range []string{"o=none", "o=x", one, "none"} {
			bad = append(bad, api.ChangeRecord{Kind: kind, Name: name, Pairs: pairs("o", "x"), NewRDN: "o=y"})
		}
	}
	for _, name := range []string{"cn", " ", ",", "cn=a,", "cn=a;o=x", "cn=\xff", "=a", "cn=a\\", "1=a", "cn=#04", "cn=a+cn=b", long, deep} {
		bad = append(bad, added(name, "o", "x"), deleted(name), changed(name), called(name, "o=y", true))
	}
	for _, desc := range []string{"dn", "DN", "Dn", "dN", "", "c n", "cn;", "1", "-", "cn ", "\xc3\xa9", "01.2"} {
		for _, name := range []string{"o=none", "o=x", "cn=2,o=x", ""} {
			bad = append(bad, added(name, desc, "v"), added(name, "o", "v", desc, "v", "sn", "v"), added(name, "o", "v", desc, ""))
			bad = append(bad, changed(name, to(0, desc, "v")), changed(name, to(1, desc)), changed(name, to(2, desc)), changed(name, to(1, "none"), to(2, "sn", "v"), to(2, desc, "v")))
		}
	}
	for _, name := range []string{"o=none", "o=x", "cn=2,o=x", "", one} {
		bad = append(bad, added(name), changed(name, to(0, "sn")), changed(name, to(1, "none"), to(0, "sn")), changed(name, to(0, "none", "v"), to(0, "sn"), to(0, "sn", "v")))
		for _, kind := range []int{-1, 3, 4, 1 << 40, -1 << 40} {
			bad = append(bad, changed(name, to(kind, "sn", "v")), changed(name, to(kind, "sn")), changed(name, to(1, "none"), to(kind, "none", "v")))
		}
		for _, part := range []string{"", " ", "cn", "cn=a,o=x", "ou=a,", ",", "cn=a\\", "cn=\\ff", "cn=a+cn=b", "cn=a+commonName=b", "+cn=a", long} {
			bad = append(bad, called(name, part, true), called(name, part, false, "o=x"), called(name, part, false, "o=none"))
		}
		for _, superior := range []string{"cn", " ", "o=x,", long, deep, "o=\xff"} {
			bad = append(bad, called(name, "ou=b", true, superior), called(name, "ou=q", false, superior))
		}
	}
	for _, c := range bad {
		holdRefused(t, example(), c, api.ErrBadChange)
		holdRefused(t, []api.Entry{having("", "o", "x")}, c, api.ErrBadChange)
	}
}

// P21.1: a critical control makes a change none, wherever it stands, ahead of every other error; another one makes no difference.
func TestControls(t *testing.T) {
	critical, other := api.Control{OID: "1.2", Critical: true}, api.Control{OID: "1.3", Value: "v", HasValue: true}
	for _, c := range []api.ChangeRecord{
		added("cn=2,o=x", "sn", "a"), deleted(one), changed(one, to(0, "sn", "a")), called(one, "cn=2", true),
		added("o=x", "sn", "a"), deleted("o=none"), changed("o=none"), called("o=x", "cn=2", true), added("cn=2,o=none", "sn", "a"),
	} {
		want, err := Apply(grown(t, example()...), c)
		for _, controls := range [][]api.Control{{other}, {other, {}}, {{OID: "no identifier"}}, {{Value: "v"}}} {
			c.Controls = controls
			if got, again := Apply(grown(t, example()...), c); shown(got) != shown(want) || again != err {
				t.Errorf("%s: %d, %s; without controls %d, %s", told(c), again, shown(got), err, shown(want))
			}
			holdAll(t, grown(t, example()...), []api.ChangeRecord{c})
		}
		for _, controls := range [][]api.Control{{critical}, {other, critical}, {critical, other}, {{Critical: true}}} {
			c.Controls = controls
			holdRefused(t, example(), c, api.ErrBadChange)
		}
	}
}

// P21.1: what a change's Kind doesn't ask for makes no difference, not even where it would be wrong.
func TestUnnamedFields(t *testing.T) {
	bad := []api.Change{to(9, "dn"), to(0, "sn")}
	add := added("cn=2,o=x", "sn", "a")
	add.Changes, add.NewRDN, add.DeleteOld, add.NewSuperior, add.HasNewSuperior = bad, "none", true, "none", true
	holdNames(t, example(), add, "o=x / cn=2,o=x / ou=a,o=x / "+one+" / ou=b,o=x")
	erase := deleted("ou=b,o=x")
	erase.Pairs, erase.Changes, erase.NewRDN, erase.DeleteOld, erase.NewSuperior, erase.HasNewSuperior = pairs("dn", "x"), bad, "none", true, "none", true
	holdNames(t, example(), erase, "o=x / ou=a,o=x / "+one)
	modify := changed(one, to(1, "sn"))
	modify.Pairs, modify.NewRDN, modify.DeleteOld, modify.NewSuperior, modify.HasNewSuperior = pairs("dn", "x"), "none", true, "none", true
	holdAttrs(t, example(), modify, one, "cn[1]")
	rename := called(one, "cn=2", true)
	rename.Pairs, rename.Changes, rename.NewSuperior = pairs("dn", "x"), bad, "none"
	holdNames(t, example(), rename, "o=x / ou=a,o=x / cn=2,ou=a,o=x / ou=b,o=x")
	// The line alone is an AddEntry's.
	for _, c := range []api.ChangeRecord{add, erase, modify, rename} {
		c.Line = 99
		holdAll(t, grown(t, example()...), []api.ChangeRecord{c})
		made, _ := Apply(grown(t, example()...), c)
		lines := 0
		for _, e := range entriesOf(made) {
			if e.Line == 99 {
				lines++
			}
		}
		if (lines == 1) != (c.Kind == api.AddEntry) || lines > 1 {
			t.Errorf("%s: %d entries have its line", told(c), lines)
		}
	}
}

// P21.1: the chapter's examples 1 and 2, and others of their kind.
func TestAdd(t *testing.T) {
	holdApplied(t, example(), added("cn=2,OU=A,o=x", "sn", "Bo"), "o=x: o[x]\nou=a,o=x: ou[a]\n"+one+": cn[1] sn[Lee]\ncn=2,OU=A,o=x: sn[Bo] cn[2]\nou=b,o=x: ou[b]\n")
	holdRefused(t, example(), added("ou=A,o=x", "ou", "A"), api.ErrExists)
	holdRefused(t, example(), added("cn=9,ou=z,o=x", "cn", "9"), api.ErrNoParent)
	holdRefused(t, example(), added("cn=9,o=x"), api.ErrBadChange)
	holdRefused(t, example(), added("cn=9,o=x", "dn", "x"), api.ErrBadChange)
	made, _ := Apply(grown(t, example()...), added("cn=2,OU=A,o=x", "sn", "Bo"))
	if made.Len() != 5 || made.Find([]string{"o=x", "ou=a", "cn=2"}) != 3 || made.Place(3) != 3 {
		t.Errorf("the new entry isn't number 3 of 5")
	}
}

// P21.1: a name that is there, under whatever spelling, even where other errors apply too.
func TestAddOfWhatIsThere(t *testing.T) {
	for _, name := range []string{"o=x", "O=X", "organizationName=x", "2.5.4.10= x ", "ou=a,o=x", "OU = A , O = X", "ou=\\61,o=\\78", "cn=1,ou=a,o=x", "commonName=#040131,ou=a,o=x"} {
		holdRefused(t, example(), added(name, "sn", "a"), api.ErrExists)
		holdRefused(t, example(), added(name, "changetype", "a"), api.ErrExists)
	}
	holdRefused(t, []api.Entry{having("", "o", "x")}, added("", "o", "x"), api.ErrExists)
	holdRefused(t, []api.Entry{having("cn=a+sn=b", "o", "x")}, added("SN=B+CN=A", "o", "x"), api.ErrExists)
}

// P21.1: a parent that isn't there, the empty name's too.
func TestAddWithoutParent(t *testing.T) {
	for _, name := range []string{"", "o=y", "cn=1,o=y", "ou=a", "cn=9,ou=z,o=x", "cn=9,cn=9,ou=a,o=x", "cn=9,cn=1,ou=b,o=x", "o=x,o=x,o=x"} {
		holdRefused(t, example(), added(name, "sn", "a"), api.ErrNoParent)
		holdRefused(t, example(), added(name, "changetype", "a"), api.ErrNoParent)
	}
	// Above a root whose key has two parts nothing can be added, nor beside it.
	two := []api.Entry{having("ou=a,o=x", "ou", "a")}
	for _, name := range []string{"", "o=x", "ou=b,o=x", "cn=1,ou=b,o=x", "o=y"} {
		holdRefused(t, two, added(name, "sn", "a"), api.ErrNoParent)
	}
	holdNames(t, two, added("cn=1,ou=a,o=x", "sn", "a"), "ou=a,o=x / cn=1,ou=a,o=x")
	// An entry whose key has one part has the empty name as its parent.
	empty := []api.Entry{having("", "o", "x")}
	holdNames(t, empty, added("o=y", "sn", "a"), " / o=y")
	holdRefused(t, empty, added("cn=1,o=y", "sn", "a"), api.ErrNoParent)
}

// P21.1: what the new entry has: as chapter 8 makes it of its pairs and its name.
func TestAddedAttributes(t *testing.T) {
	const name = "cn=2,o=x"
	for _, c := range []struct {
		pairs []string
		want  string
	}{
		{[]string{"cn", "2"}, "cn[2]"},
		{[]string{"sn", "a"}, "sn[a] cn[2]"},
		{[]string{"CommonName", " 2 "}, "CommonName(cn)[ 2 ]"},
		{[]string{"sn", "a", "Surname", "b", "2.5.4.4", "A", "cn", "3"}, "sn[a|b] cn[3|2]"},
		{[]string{"sn", "a", "sn", "a", "sn", "A", "SN", " a"}, "sn[a] cn[2]"},
		{[]string{"x-odd", "a", "X-ODD", "A", "x-odd", "a"}, "x-odd[a|A] cn[2]"},
		{[]string{"cn;x", "2", "cn;X;x", "2", "cn;x", "3"}, "cn;x[2|3] cn[2]"},
		{[]string{"uidNumber", "7", "uidnumber", "07", "uidNumber", "07"}, "uidNumber[7|07] cn[2]"},
		{[]string{"sn", "", "mail", ""}, "sn[] mail[] cn[2]"},
		// A reserved word that comes first goes behind the first that is none.
		{[]string{"changetype", "x"}, "cn[2] changetype[x]"},
		{[]string{"Control", "x", "sn", "a", "mail", "b"}, "sn[a] Control[x] mail[b] cn[2]"},
		{[]string{"CONTROL", "x", "ChangeType", "y"}, "cn[2] CONTROL[x] ChangeType[y]"},
		{[]string{"changetype", "x", "control", "y", "sn", "a", "changetype", "z"}, "sn[a] changetype[x|z] control[y] cn[2]"},
		{[]string{"sn", "a", "changetype", "x", "control", "y"}, "sn[a] changetype[x] control[y] cn[2]"},
		{[]string{"changetype;x", "x", "changetype", "y"}, "changetype;x[x] changetype[y] cn[2]"},
		{[]string{"controls", "x", "control", "y"}, "controls[x] control[y] cn[2]"},
		{[]string{"changetype", "x", "dn;x", "y"}, "dn;x[y] changetype[x] cn[2]"},
	} {
		holdAttrs(t, example(), added(name, c.pairs...), name, c.want)
	}
	holdAttrs(t, example(), added("cn=2+sn=B, O=X", "mail", "m"), "cn=2+sn=B, O=X", "mail[m] cn[2] sn[B]")
	holdAttrs(t, example(), added("dn=2,o=x", "sn", "a"), "dn=2,o=x", "sn[a]")
	holdAttrs(t, example(), added("dn=2+sn=b,o=x", "control", "a"), "dn=2+sn=b,o=x", "sn[b] control[a]")
}

// P21.1: reserved words alone, the name's own too.
func TestAddOfReservedWords(t *testing.T) {
	for _, c := range []api.ChangeRecord{
		added("changetype=9,o=x", "control", "9"), added("Control=9,o=x", "control", "9"), added("dn=9,o=x", "changetype", "9"), added("control=9+changetype=9+DN=9,o=x", "ChangeType", "a", "CONTROL", "b"),
	} {
		holdRefused(t, example(), c, api.ErrBadChange)
	}
	holdAttrs(t, example(), added("changetype=9,o=x", "sn", "9"), "changetype=9,o=x", "sn[9] changetype[9]")
	holdAttrs(t, example(), added("changetype=9,o=x", "control", "9", "sn", "9"), "changetype=9,o=x", "sn[9] control[9] changetype[9]")
}

// P21.1: where the new entry stands: in canonical order, whatever the order in which the tree was built.
func TestAddedPlaces(t *testing.T) {
	for name, want := range map[string]string{
		"cn=9,o=x":           "o=x / cn=9,o=x / ou=a,o=x / " + one + " / ou=b,o=x",
		"ou=ab,o=x":          "o=x / ou=a,o=x / " + one + " / ou=ab,o=x / ou=b,o=x",
		"ou=a!,o=x":          "o=x / ou=a,o=x / " + one + " / ou=a!,o=x / ou=b,o=x",
		"ou=c,o=x":           "o=x / ou=a,o=x / " + one + " / ou=b,o=x / ou=c,o=x",
		"cn=0,cn=1,ou=a,o=x": "o=x / ou=a,o=x / " + one + " / cn=0,cn=1,ou=a,o=x / ou=b,o=x",
	} {
		holdNames(t, example(), added(name, "sn", "a"), want)
	}
}

// P21.1: the chapter's example 3, and others of its kind.
func TestDelete(t *testing.T) {
	holdApplied(t, example(), deleted(one), "o=x: o[x]\nou=a,o=x: ou[a]\nou=b,o=x: ou[b]\n")
	holdNames(t, example(), deleted("CN = 1 , OU = A , O = X"), "o=x / ou=a,o=x / ou=b,o=x")
	holdNames(t, example(), deleted("ou=b,o=x"), "o=x / ou=a,o=x / "+one)
	holdRefused(t, example(), deleted("ou=a,o=x"), api.ErrNotLeaf)
	for _, name := range []string{"o=x", "O = X"} {
		holdRefused(t, example(), deleted(name), api.ErrRoot)
		holdRefused(t, example()[:1], deleted(name), api.ErrRoot)
	}
	for _, name := range []string{"o=y", "", "cn=1", "cn=1,ou=b,o=x", "cn=2,ou=a,o=x", "cn=1,cn=1,ou=a,o=x"} {
		holdRefused(t, example(), deleted(name), api.ErrNoEntry)
	}
	empty := []api.Entry{having("", "o", "x"), having("o=x", "o", "x")}
	holdRefused(t, empty, deleted(""), api.ErrRoot)
	holdNames(t, empty, deleted("o=x"), "")
	deep := []api.Entry{having("ou=a,o=x", "ou", "a"), having("cn=1,ou=a,o=x", "cn", "1")}
	holdRefused(t, deep, deleted("o=x"), api.ErrNoEntry)
	holdRefused(t, deep, deleted("ou=a,o=x"), api.ErrRoot)
}

// P21.1: what is deleted may be added again, and its parent deleted then.
func TestDeleteDown(t *testing.T) {
	tree := grown(t, example()...)
	for _, step := range []struct {
		c    api.ChangeRecord
		want string
	}{
		{deleted(one), "o=x / ou=a,o=x / ou=b,o=x"}, {added("CN=1,ou=a,o=x", "sn", "a"), "o=x / ou=a,o=x / CN=1,ou=a,o=x / ou=b,o=x"}, {deleted(one), "o=x / ou=a,o=x / ou=b,o=x"}, {deleted("ou=a,o=x"), "o=x / ou=b,o=x"}, {deleted("ou=b,o=x"), "o=x"},
	} {
		made, err := Apply(tree, step.c)
		if err != api.OK || namesOf(made) != step.want {
			t.Fatalf("%s: %d, %s; want %s", told(step.c), err, namesOf(made), step.want)
		}
		holdAll(t, tree, []api.ChangeRecord{step.c})
		tree = made
	}
}

// P21.1: trees of one shape are the same, in whatever order they were built.
func TestOrderOfBuilding(t *testing.T) {
	first := example()
	second := []api.Entry{first[0], first[2], first[3], first[1]}
	for _, c := range []api.ChangeRecord{added("cn=2,o=x", "sn", "a"), deleted(one), changed(one, to(1, "sn")), called("ou=a,o=x", "ou=c", true)} {
		a, _ := Apply(grown(t, first...), c)
		b, _ := Apply(grown(t, second...), c)
		if wholeTold(a) != wholeTold(b) {
			t.Errorf("%s: %sand %s", told(c), wholeTold(a), wholeTold(b))
		}
		if !slices.IsSortedFunc(entriesOf(a), func(x, y api.Entry) int { return slices.Compare(x.Key, y.Key) }) {
			t.Errorf("%s: not in canonical order", told(c))
		}
	}
}
