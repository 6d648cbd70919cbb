package server

import (
	"strings"
	"testing"

	"roster/api"
	"roster/dit"
	"roster/entry"
	"roster/ldif"
)

// P17.1, P0.4: snapshots that are accepted, the chapter's first example ahead.
func TestOpen(t *testing.T) {
	for _, x := range []struct {
		snapshot string
		size     int
	}{
		{chapter, 2},
		{ten, 4},
		{"version: 1\ndn: o=x\no: x", 1},
		{"version: 1\ndn:\no: x\n", 1}, // the root may have the empty name
		{"version: 1\ndn:\no: x\n\ndn: o=y\no: y\n", 2},                 // whose children have one part
		{"version: 1\ndn: cn=a,ou=b,o=x\ncn: a\n", 1},                   // or any other, and no parent
		{"version: 1\r\ndn: o=x\r\no: x\r\n\r\n\r\n# the end\r\n", 1},   // line ends, comments, blank lines
		{"version: 1\ndn:: bz14\nx-odd;b;A:: /wA=\nmail:: w6k=\n", 1},   // base64; an attribute that isn't known; a value that isn't of its syntax
		{"version: 1\ndn: o=x\no: x\no: X\nO: x\nchangetype: add\n", 1}, // equal values
		{"version: 1\ndn: o=x\no: x\n\ndn: cn=a,O=X\ncn: a\n\ndn: cn=b+sn=c,CN=A,o=x\ncn: b\n", 3},
	} {
		if n := open(t, x.snapshot).Size(); n != x.size {
			t.Errorf("Open(%q): Size %d, want %d", x.snapshot, n, x.size)
		}
	}
}

func holdFault(t *testing.T, snapshot string, err api.Errno, line int) {
	t.Helper()
	if s, fault := Open(snapshot); s != nil || fault != (api.Fault{Err: err, Line: line}) {
		t.Errorf("Open(%q) = %v, %v; want %d, line %d", snapshot, s, fault, err, line)
	}
}

// P17.1: what ldif.Load refuses, each of its errors with its line.
func TestOpenRefusedByTheGrammar(t *testing.T) {
	const front = "version: 1\n\ndn: o=x\no: x\n\n"
	holdFault(t, "", api.ErrVersion, 1)
	holdFault(t, "dn: o=x\no: x\n", api.ErrVersion, 1)
	holdFault(t, "version: 2\n", api.ErrVersion, 1)
	holdFault(t, "version: 1\n", api.ErrBegin, 2)
	holdFault(t, "# c\n\nversion: 1\n\n\n", api.ErrBegin, 6)
	holdFault(t, front+"cn: a\n", api.ErrBegin, 6)
	holdFault(t, front+"dn: cn=a,o=x\ncn: a\rb\n", api.ErrReturn, 7)
	holdFault(t, front+" dn: cn=a,o=x\ncn: a\n", api.ErrFold, 6)
	holdFault(t, front+"dn: caf\xc3\xa9\ncn: a\n", api.ErrNameSpec, 6)
	holdFault(t, front+"dn: cn=a,o=x\ncn a\n", api.ErrLine, 7)
	holdFault(t, front+"dn: cn=a,o=x\ncn: a\ndn: cn=b,o=x\n", api.ErrLine, 8)
	holdFault(t, front+"dn: cn=a,o=x\ncn:: ?\n", api.ErrValue, 7)
	holdFault(t, front+"dn: cn=a,o=x\ncn:< file:x\n", api.ErrURL, 7)
	holdFault(t, front+"dn: cn=a,o=x\nchangetype: delete\n", api.ErrChange, 7)
	holdFault(t, front+"dn: cn=a,o=x\n\n", api.ErrBare, 6)
}

// P17.1: what entry.Gather refuses: a name that doesn't parse, with the line on which it begins.
func TestOpenRefusedByAName(t *testing.T) {
	holdFault(t, "version: 1\ndn: dc\ndc: x\n", api.ErrName, 2)
	holdFault(t, "version: 1\n# c\n\n\ndn: o\n =x,\no: x\n", api.ErrName, 5)
	for _, name := range []string{"x", "cn=a,", ",", "cn=a;o=x", "cn=a+CN=b,o=x", "cn=\\,o=x\\", "=a", "cn=#0,o=x", " ", strings.Repeat("cn=a,", 64) + "o=x", "cn=" + strings.Repeat("a", 4094)} {
		holdFault(t, "version: 1\n\ndn: o=x\no: x\n\ndn: cn=b,o=x\ncn: b\n\n"+slowLine("dn", name)+"cn: a\n", api.ErrName, 9)
	}
	holdFault(t, "version: 1\ndn: o=x\no: x\n\n"+slowLine("dn", "cn=\xff,o=x")+"cn: a\n", api.ErrName, 5)
}

// P17.1: what dit.Build refuses: a double and an orphan, with the line of the entry at the place that it tells; the ninth of the ten examples.
func TestOpenRefusedByTheTree(t *testing.T) {
	const front = "version: 1\n\ndn: o=x\no: x\n\ndn: cn=a,o=x\ncn: a\n\n# c\n\n\n" // eleven lines
	holdFault(t, ten+"\ndn: CN=BO,OU=people,DC=X\ncn: Bo\n", api.ErrDouble, 23)
	holdFault(t, front+"dn: o=x\no: x\n", api.ErrDouble, 12)
	holdFault(t, front+"dn: commonName = A ,\n O=X\ncn: a\n", api.ErrDouble, 12)
	holdFault(t, front+"dn: cn=b,cn=c,o=x\ncn: b\n", api.ErrOrphan, 12)
	holdFault(t, front+"dn: o=y\no: y\n", api.ErrOrphan, 12)
	holdFault(t, front+"dn:\no: y\n", api.ErrOrphan, 12)
	holdFault(t, front+"dn: cn=b,cn=c,o=x\ncn: b\n\ndn: cn=c,o=x\ncn: c\n", api.ErrOrphan, 12) // the parent stands behind
	holdFault(t, "version: 1\ndn: ou=a,o=x\nou: a\n\ndn: o=x\no: x\n", api.ErrOrphan, 5)       // above the root
	holdFault(t, "version: 1\ndn:\no: x\n\ndn:\no: x\n", api.ErrDouble, 5)
	holdFault(t, "version: 1\ndn: o=x\no: x\n\ndn:\no: x\n\ndn:\no: x\n", api.ErrOrphan, 5)
}

// P17.1: where more than one would refuse: the grammar ahead of the names, these ahead of the tree, and each tells the first of its own.
func TestOpenTellsTheFirst(t *testing.T) {
	const badName, double, orphan, badLine = "dn: dc\ndc: x\n\n", "dn: DC=X\ndc: x\n\n", "dn: dc=y\ndc: y\n\n", "dn: cn=z,dc=x\nno line\n\n"
	const front = "version: 1\n\ndn: dc=x\ndc: x\n\n"
	holdFault(t, front+badName+double+orphan+badLine, api.ErrLine, 16)
	holdFault(t, front+badName+badLine+badLine, api.ErrLine, 10)
	holdFault(t, front+double+badLine, api.ErrLine, 10)
	holdFault(t, front+double+orphan+badName, api.ErrName, 12)
	holdFault(t, front+orphan+badName+badName, api.ErrName, 9)
	holdFault(t, front+double+orphan, api.ErrDouble, 6)
	holdFault(t, front+orphan+double, api.ErrOrphan, 6)
	holdFault(t, front+orphan+orphan, api.ErrOrphan, 6) // the second one is a double too
}

// P17.1, P0.4: many snapshots, good and bad, against the document told a second time.
func TestOpenByChance(t *testing.T) {
	m := newMaker(171)
	refused := map[api.Errno]int{}
	for range 4000 {
		snapshot := m.damaged(m.paths(m.Intn(8)))
		entries, fault := slowOpen(snapshot)
		s, got := Open(snapshot)
		refused[fault.Err]++
		if got != fault || (s == nil) != (fault.Err != api.OK) {
			t.Fatalf("Open(%q): %v, want %v", snapshot, got, fault)
		}
		if s != nil && s.Size() != len(entries) {
			t.Fatalf("Open(%q): Size %d, want %d", snapshot, s.Size(), len(entries))
		}
	}
	for _, err := range []api.Errno{api.OK, api.ErrReturn, api.ErrBegin, api.ErrNameSpec, api.ErrLine, api.ErrValue, api.ErrURL, api.ErrChange, api.ErrBare, api.ErrName, api.ErrDouble, api.ErrOrphan} {
		if refused[err] < 20 {
			t.Errorf("%d snapshots with the error %d are too few", refused[err], err)
		}
	}
}

// P17.1: the server's tree is dit.Build's of the entries in the records' order.
func TestTree(t *testing.T) {
	m := newMaker(172)
	for range 200 {
		snapshot := m.snapshot(m.paths(m.Intn(10)))
		records, _, _ := ldif.Load(snapshot)
		entries, _, _ := entry.Gather(records)
		want, _, _ := dit.Build(entries)
		tree := open(t, snapshot).store.Tree()
		if tree.Len() != want.Len() {
			t.Fatalf("%q: %d entries, want %d", snapshot, tree.Len(), want.Len())
		}
		for n := range want.Len() {
			if told(tree.Entry(n)) != told(want.Entry(n)) || tree.Place(n) != want.Place(n) {
				t.Fatalf("%q: entry %d is %s at %d, want %s at %d", snapshot, n, told(tree.Entry(n)), tree.Place(n), told(want.Entry(n)), want.Place(n))
			}
		}
	}
}
