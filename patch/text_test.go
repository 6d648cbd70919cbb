package patch

import (
	"encoding/base64"
	"testing"

	"roster/api"
	"roster/ldif"
)

const (
	v        = "version: 1\n"
	snapshot = v + "\ndn: o=x\no: x\n\ndn: ou=b,o=x\nou: b\n\ndn: ou=a,o=x\nou: a\n\ndn: cn=1,ou=a,o=x\ncn: 1\nsn: Lee\n"
)

// holdWritten holds the snapshot that Text writes.
func holdWritten(t *testing.T, from, changes, want string) {
	t.Helper()
	if got, fault := Text(from, changes); got != want || fault != (api.Fault{}) {
		t.Errorf("Text(%q, %q) = %q, %v; want %q", from, changes, got, fault, want)
	}
	holdText(t, from, changes)
}

// holdFault holds the fault for which nothing is written.
func holdFault(t *testing.T, from, changes string, err api.Errno, line int) {
	t.Helper()
	if got, fault := Text(from, changes); got != "" || fault != (api.Fault{Err: err, Line: line}) {
		t.Errorf("Text(%q, %q) = %q, %v; want %d, %d", from, changes, got, fault, err, line)
	}
	holdText(t, from, changes)
}

// P21.5: the chapter's example 10, and others of its kind.
func TestText(t *testing.T) {
	const rest = "\ndn: ou=a,o=x\nou: a\n\ndn: cn=1,ou=a,o=x\ncn: 1\nsn: Lee\n"
	holdWritten(t, snapshot, v+"dn: ou=b,o=x\nchangetype: delete\n", v+"\ndn: o=x\no: x\n"+rest)
	holdWritten(t, snapshot, v+"dn: o=x\nchangetype: modify\n", v+"\ndn: o=x\no: x\n"+rest+"\ndn: ou=b,o=x\nou: b\n")
	holdWritten(t, snapshot, v+"dn: cn=2,o=x\nchangetype: add\nchangetype: a\nsn:: IGE=\n\ndn: ou=b,o=x\nchangetype: modrdn\nnewrdn: OU=caf\\c3\\a9\ndeleteoldrdn: 1\n",
		v+"\ndn: o=x\no: x\n\ndn: cn=2,o=x\nsn:: IGE=\nchangetype: a\ncn: 2\n"+rest+"\ndn: OU=caf\\c3\\a9,o=x\nOU:: Y2Fmw6k=\n")
	holdWritten(t, snapshot, v+"dn: cn=1,ou=a,o=x\nchangetype: modify\nadd: mail\nmail: a@b\n-\ndelete: sn\n-\nreplace: commonName\ncn: one\ncn: 1\n-\n\ndn: ou=a,o=x\nchangetype: moddn\nnewrdn: ou=a\ndeleteoldrdn: 0\nnewsuperior: OU=B,O=X\n",
		v+"\ndn: o=x\no: x\n\ndn: ou=b,o=x\nou: b\n\ndn: ou=a,ou=b,o=x\nou: a\n\ndn: cn=1,ou=a,ou=b,o=x\ncn: one\ncn: 1\nmail: a@b\n")
	// The name's own values, which the snapshot doesn't give, are written; folded lines and comments are not.
	holdWritten(t, "# c\n"+v+"dn: O = \n X\n#\nsn: a\nSN: A\n", v+"dn: o=x\nchangetype: modify\n", v+"\ndn: O = X\nsn: a\nO: X\n")
	holdWritten(t, v+"dn:\ncn: a\n", v+"dn:\nchangetype: modify\nadd: o\no: x\n-\n", v+"\ndn:\ncn: a\no: x\n")
}

// P21.5: a fault of each layer below, with its line; the snapshot's ahead of all that is wrong with the changes.
func TestTextOfNoSnapshot(t *testing.T) {
	for _, changes := range []string{"", "none", v + "dn: ou=z,o=x\nchangetype: delete\n", v + "dn: ou=b,o=x\nchangetype: delete\n"} {
		holdFault(t, "", changes, api.ErrVersion, 1)
		holdFault(t, v, changes, api.ErrBegin, 2)
		holdFault(t, snapshot+"\rx", changes, api.ErrReturn, 15)
		holdFault(t, snapshot+"\n x\n", changes, api.ErrFold, 16)
		holdFault(t, snapshot+"o x\n", changes, api.ErrLine, 15)
		holdFault(t, snapshot+"o:<x\n", changes, api.ErrURL, 15)
		holdFault(t, snapshot+"o: :\n", changes, api.ErrValue, 15)
		holdFault(t, snapshot+"\ndn: o=y\n", changes, api.ErrBare, 16)
		holdFault(t, snapshot+"\ndn:< o=y\no: x\n", changes, api.ErrNameSpec, 16)
		holdFault(t, snapshot+"\ndn: o=y\nchangetype: delete\n", changes, api.ErrChange, 17)
		holdFault(t, snapshot+"\ndn: o\no: x\n", changes, api.ErrName, 16)
		holdFault(t, v+"dn: o=x,\no: x\n\n\ndn: o\no: x\n", changes, api.ErrName, 2)
		holdFault(t, snapshot+"\ndn: O=X\no: x\n", changes, api.ErrDouble, 16)
		holdFault(t, snapshot+"\n\n\ndn: o=z\no: z\n\ndn: O=X\no: x\n", changes, api.ErrOrphan, 18)
		// The grammar is told ahead of the names, these ahead of the tree.
		holdFault(t, snapshot+"\ndn: o=z\no: z\n\ndn: o\no: z\n", changes, api.ErrName, 19)
		holdFault(t, snapshot+"\ndn: o=z\no: z\n\ndn: o\no: z\n\nx", changes, api.ErrBegin, 22)
	}
}

// P21.5: a fault of the changes' text, with its line; it is told ahead of a change that is refused.
func TestTextOfNoChanges(t *testing.T) {
	const refused = v + "dn: ou=z,o=x\nchangetype: delete\n\n"
	for behind, f := range map[string]api.Fault{
		"dn: o=x\n": {Err: api.ErrChangeType, Line: 5}, "dn: o=x\no: x\n": {Err: api.ErrChangeType, Line: 6}, "dn: o=x\nchangetype: add\n": {Err: api.ErrBare, Line: 5},
		"dn: o=x\nchangetype: delete\no: x\n": {Err: api.ErrChangeLine, Line: 7}, "dn: o=x\nchangetype: modify\nadd: sn\n": {Err: api.ErrModify, Line: 7}, "dn: o=x\nchangetype: modrdn\n": {Err: api.ErrNewRDN, Line: 5},
		"dn: o=x\nchangetype: modrdn\nnewrdn: o=y\ndeleteoldrdn: 2\n": {Err: api.ErrDeleteOld, Line: 8}, "dn: o=x\ncontrol: 1\nchangetype: delete\n": {Err: api.ErrControlLine, Line: 6}, "\rx": {Err: api.ErrReturn, Line: 5},
		"dn: o=x\nchangetype: add\no x\n": {Err: api.ErrLine, Line: 7}, "dn: o=x\nchangetype: add\no: :\n": {Err: api.ErrValue, Line: 7}, "dn: o=x\nchangetype: add\no:< x\n": {Err: api.ErrURL, Line: 7}, "dn:<\n": {Err: api.ErrNameSpec, Line: 5}, "o: x\n": {Err: api.ErrBegin, Line: 5},
	} {
		holdFault(t, snapshot, refused+behind, f.Err, f.Line)
	}
	holdFault(t, snapshot, "", api.ErrVersion, 1)
	holdFault(t, snapshot, v, api.ErrBegin, 2)
	holdFault(t, snapshot, snapshot, api.ErrChangeType, 4)
}

// P21.5: a change that is refused, with the line of its name: each of the layer's errors.
func TestTextRefused(t *testing.T) {
	const fine = "# c\n" + v + "\n\ndn: ou=b,o=x\nchangetype: modify\n\n# c\n" // eight lines
	for behind, err := range map[string]api.Errno{
		"dn: OU=B,o=x\nchangetype: add\nou: b\n": api.ErrExists, "dn: ou=z,o=x\nchangetype: delete\n": api.ErrNoEntry, "dn: cn=1,ou=z,o=x\nchangetype: add\ncn: 1\n": api.ErrNoParent, "dn: ou=a,o=x\nchangetype: delete\n": api.ErrNotLeaf,
		"dn: cn=1,ou=a,o=x\nchangetype: modify\nadd: sn\nsn: lee\n-\n": api.ErrHasValue, "dn: cn=1,ou=a,o=x\nchangetype: modify\ndelete: mail\n-\n": api.ErrNoValue, "dn: cn=1,ou=a,o=x\nchangetype: modify\ndelete: cn\n-\n": api.ErrOwnValue,
		"dn: ou=a,o=x\nchangetype: modrdn\nnewrdn: ou=z\ndeleteoldrdn: 1\nnewsuperior: ou=a,o=x\n": api.ErrBeneath, "dn: o=x\nchangetype: delete\n": api.ErrRoot, "dn: o\nchangetype: delete\n": api.ErrBadChange, "dn: ou=b,o=x\ncontrol: 1.2 true\nchangetype: delete\n": api.ErrBadChange,
		"dn: ou=b,o=x\nchangetype: modify\nadd: sn\n-\n": api.ErrBadChange, "dn: ou=a,o=x\nchangetype: modrdn\nnewrdn:\ndeleteoldrdn: 1\n": api.ErrBadChange,
	} {
		holdFault(t, snapshot, fine+behind, err, 9)
		holdFault(t, snapshot, fine+behind+"\ndn: o=none\nchangetype: delete\n", err, 9)
	}
	if _, fault := Text(snapshot, fine); fault != (api.Fault{}) {
		t.Errorf("the change ahead is refused: %v", fault)
	}
}

// P21.5: by chance; and what is written can be read again, to the same tree.
func TestTextByChance(t *testing.T) {
	m := newMaker(216)
	written := 0
	for range 3000 {
		from, changes := m.texts()
		holdText(t, from, changes)
		got, fault := Text(from, changes)
		if fault != (api.Fault{}) {
			continue
		}
		written++
		if again, fault := Text(got, v+"dn:: "+rootOf(t, got)+"\nchangetype: modify\n"); again != got || fault != (api.Fault{}) {
			t.Fatalf("%q, read again, is %q, %v", got, again, fault)
		}
	}
	if written < 1000 {
		t.Errorf("%d texts were written", written)
	}
}

// rootOf is the name of a snapshot's first record, in base64.
func rootOf(t *testing.T, s string) string {
	t.Helper()
	records, err, line := ldif.Load(s)
	if err != api.OK {
		t.Fatalf("%q is no snapshot: %d, %d", s, err, line)
	}
	return base64.StdEncoding.EncodeToString([]byte(records[0].Name))
}
