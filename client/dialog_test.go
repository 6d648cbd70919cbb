package client

import (
	"encoding/base64"
	"slices"
	"strings"
	"testing"

	"roster/api"
	"roster/dit"
	"roster/entry"
	"roster/ldif"
	"roster/msg"
	"roster/server"
)

// P19.5: the chapter's examples 5 and 6.
func TestDialogExamples(t *testing.T) {
	holdDialog(t, small, "bind\n\nsearch ldap:///dc=x\nsearch ldap:///dc=x???(dc=X)\ndelete dc=x\nunbind\nbind",
		"# 1 bind 0\n# 2 done 0\n# 3 entry\ndn: dc=x\ndc: x\n\n# 3 done 0\n# 4 delete 53\ntext: read only\n! 192\n", api.Fault{})
	holdDialog(t, small, "unbind\n\n# x\nbind", "! 192\n! 192\n! 192\n", api.Fault{})
}

// P19.5: the examples 1 to 9 of the whole.
func TestDialogPeople(t *testing.T) {
	const top, ou, ann, bo = "# 1 entry\ndn: dc=x\n", "# 1 entry\ndn: ou=People,dc=x\n", "# 1 entry\ndn: cn=Ann Lee,ou=People,dc=x\n", "# 1 entry\ndn: cn=Bo,ou=People,dc=x\n"
	for script, want := range map[string]string{
		"search ldap:///dc=x?cn?sub?(sn=LEE)":         ann + "cn: Ann Lee\n\n" + bo + "cn: Bo\n\n# 1 done 0\n",
		"search ldap:///dc=x?cn?sub?(sn=LEE) 1":       ann + "cn: Ann Lee\n\n# 1 done 4\n",
		"search ldap:///dc=x?cn?sub?(sn=LEE) 2 types": ann + "# cn\n\n" + bo + "# cn\n\n# 1 done 0\n",
		"search ldap:///cn=C,ou=People,dc=x":          "# 1 done 32\nmatched: ou=People,dc=x\n",
		"search ldap:///dc=x?1.1?sub?(!(mail=*))":     top + "\n" + ou + "\n# 1 done 0\n",
		"search ldap:///dc=x??sub?(xColour=red)":      "# 1 done 0\n",
		"search ldap:///dc=x??sub?(!(xColour=red))":   "# 1 done 0\n",
		"search ldap:///dc=x?1.1?sub?(uidNumber>=8)":  bo + "\n# 1 done 0\n",
		"search ldap:///dc=x?1.1?sub?(name=*e*)":      ou + "\n" + ann + "\n" + bo + "\n# 1 done 0\n",
		"delete dc=x":                                 "# 1 delete 53\ntext: read only\n",
	} {
		holdDialog(t, people, script, want, api.Fault{})
	}
	holdDialog(t, people+"\ndn: CN=BO,OU=people,DC=X\ncn: Bo\n", "bind", "", api.Fault{Err: api.ErrDouble, Line: 23})
}

// P19.5: a snapshot that is refused, whatever the script is.
func TestDialogFault(t *testing.T) {
	for _, script := range []string{"", "bind", "unbind\n", "fly\nfly"} {
		holdDialog(t, "", script, "", api.Fault{Err: api.ErrVersion, Line: 1})
		holdDialog(t, "version: 1\n\n", script, "", api.Fault{Err: api.ErrBegin, Line: 3})
		holdDialog(t, "version: 1\ndn: dc=x\ndc x\n", script, "", api.Fault{Err: api.ErrLine, Line: 3})
		holdDialog(t, "version: 1\ndn: dc\ndc: x\n", script, "", api.Fault{Err: api.ErrName, Line: 2})
		holdDialog(t, small+"\ndn: DC=X\ndc: x\n", script, "", api.Fault{Err: api.ErrDouble, Line: 6})
		holdDialog(t, small+"\ndn: dc=y\ndc: y\n", script, "", api.Fault{Err: api.ErrOrphan, Line: 6})
	}
}

// P19.5: a script's lines: with a last line feed and without, empty ones, and none at all.
func TestDialogLines(t *testing.T) {
	const hello = "# 1 bind 0\n"
	for script, want := range map[string]string{
		"": "", "\n": "", "\n\n\n": "", " ": "", "#": "", "\t\n#\n \n": "",
		"bind": hello, "bind\n": hello, "\nbind": hello, "\n\nbind\n\n": hello, "#\n \nbind\n#": hello, "bind ": hello,
		"bind\nbind": hello + "# 2 bind 0\n", "bind\n\nbind\n": hello + "# 2 bind 0\n",
		"bind\r\n": "! 191\n", "bind\nfly": hello + "! 191\n", "fly\nbind": "! 191\n" + hello, "fly": "! 191\n", "fly\n\nfly\n": "! 191\n! 191\n",
		"unbind": "", "unbind\n": "", "unbind\n\n": "! 192\n", "unbind\n\n\n": "! 192\n! 192\n", "unbind\nx": "! 192\n", "bind\nunbind\nunbind\nfly\n#\nbind\n": hello + "! 192\n! 192\n! 192\n! 192\n",
	} {
		holdDialog(t, small, script, want, api.Fault{})
	}
}

// P19.5: what every command is told, and that those that are refused use up no id.
func TestDialogCommands(t *testing.T) {
	holdDialog(t, small, "bind n\nbind n p\nfly\nmodify n\nadd n d v\ndelete %ff\ndelete n\nrename n p\ncompare n d v\nabandon 1\nabandon 99\nextended 1.2\nextended 1.2 v\nsearch ldap:///o=y\nsearch ldap:///dc\nsearch ldap:///????!x\nsearch ldap:///dc=x?1.1??(%26)\nunbind\n",
		"# 1 bind 53\ntext: name without password\n# 2 bind 49\ntext: anonymous only\n! 191\n# 3 modify 53\ntext: read only\n# 4 add 53\ntext: read only\n! 131\n# 5 delete 53\ntext: read only\n# 6 rename 53\ntext: read only\n"+
			"# 7 compare 53\ntext: no compare\n# 10 extended 2\ntext: no such operation\n# 11 extended 2\ntext: no such operation\n# 12 done 32\n! 183\n! 187\n# 13 entry\ndn: dc=x\n\n# 13 done 0\n", api.Fault{})
}

// P19.5: a request beyond the server's limit is sent, and answered by a notice: the talk is over.
func TestDialogGreatRequest(t *testing.T) {
	const gone = "# 0 extended 2\ntext: no message of this protocol\noid: 1.3.6.1.4.1.1466.20036\n"
	header := 13 // of the message, its id, the operation
	most := strings.Repeat("n", api.MaxMessage-header)
	holdDialog(t, small, "delete "+most+"\nbind", "# 1 delete 53\ntext: read only\n# 2 bind 0\n", api.Fault{})
	holdDialog(t, small, "bind\ndelete "+most+"n\nbind\n\n", "# 1 bind 0\n"+gone+"! 192\n! 192\n", api.Fault{})
}

// P19.5: what the server is fed is each request's bytes, an unbind's too, one behind the other; what it answers to an unbind is not looked at.
func TestPlayFeeds(t *testing.T) {
	var fed []string
	got := play(func(chunk []byte) []byte {
		r, err := msg.DecodeRequest(string(chunk))
		if err != api.OK {
			t.Fatalf("it is fed %x", chunk)
		}
		fed = append(fed, told(r))
		spoilBytes(chunk)
		if r.Kind == api.KindUnbind {
			return []byte("\x31" + welcome)
		}
		return []byte(end(r.ID, ending(r.Kind)))
	}, "bind\n\nfly\nsearch ldap:/// 7\ndelete %ff\nunbind\nbind\n")
	want := []string{told(api.Request{ID: 1, Kind: api.KindBind, Bind: api.Bind{Version: 3}}),
		told(api.Request{ID: 2, Kind: api.KindSearch, Search: api.Search{SizeLimit: 7, Filter: parsedFilter("(objectClass=*)")}}), told(api.Request{ID: 3, Kind: api.KindUnbind})}
	if got != "# 1 bind 0\n! 191\n# 2 done 0\n! 131\n! 192\n" || !slices.Equal(fed, want) {
		t.Errorf("it tells %q, and feeds %s", got, fed)
	}
}

// P19.5: where what comes back has an error, its line stands behind the texts ahead of it; a server that is late is waited for.
func TestPlayErrors(t *testing.T) {
	for answer, want := range map[string]string{
		welcome + "\x31":       "# 1 bind 0\n! 30\n! 192\n! 192\n",
		welcome + "\x30\x00":   "# 1 bind 0\n! 130\n! 192\n! 192\n",
		welcome + welcome:      "# 1 bind 0\n! 193\n! 192\n! 192\n",
		"\x30\x80":             "! 31\n! 192\n! 192\n",
		welcome + notice + "1": "# 1 bind 0\n" + noticed + "! 192\n! 192\n",
	} {
		if got := play(func([]byte) []byte { return []byte(answer) }, "bind\n\nbind"); got != want {
			t.Errorf("of the answer %x it tells %q, want %q", answer, got, want)
		}
	}
	late, answers := 0, []string{"", welcome[:3], welcome[3:] + end(2, api.ReplyDelete) + end(3, api.ReplyBind)}
	got := play(func([]byte) []byte {
		late++
		return []byte(answers[late-1])
	}, "bind\ndelete n\nbind\n")
	if got != "# 1 bind 0\n# 2 delete 0\n# 3 bind 0\n" {
		t.Errorf("a late server's answers are told as %q", got)
	}
}

// P19.5: scripts by chance.
func TestDialogByChance(t *testing.T) {
	m := newMaker(194)
	for range 1500 {
		snapshot := people
		if m.Intn(30) == 0 {
			snapshot = m.damaged(people)
		}
		var all []string
		for range m.Intn(8) {
			line := m.line()
			if m.Intn(8) == 0 {
				line = pick(m, "", "#", " ", m.damaged(line), m.someBytes(5))
			}
			all = append(all, line)
		}
		script := strings.Join(all, "\n") + pick(m, "", "\n", "\n\n")
		want, fault := slowDialog(snapshot, script)
		if got, f := Dialog(snapshot, script); got != want || f != fault {
			t.Fatalf("Dialog(%q) = %q, %v; want %q, %v", script, got, f, want, fault)
		}
	}
}

// treeOf is all that a snapshot's tree has, lines and places aside.
func treeOf(t *testing.T, snapshot string) string {
	t.Helper()
	records, err, line := ldif.Load(snapshot)
	if err != api.OK {
		t.Fatalf("%q is no snapshot: %d, line %d", snapshot, err, line)
	}
	entries, err, line := entry.Gather(records)
	if err != api.OK {
		t.Fatalf("%q has a name that is none: %d, line %d", snapshot, err, line)
	}
	tree, err, place := dit.Build(entries)
	if err != api.OK {
		t.Fatalf("%q is no tree: %d, at %d", snapshot, err, place)
	}
	var out strings.Builder
	for n := range tree.Len() {
		e := tree.Entry(n)
		e.Line = 0
		out.WriteString(told(e) + told(tree.Parent(n)) + told(tree.Children(n)) + "\n")
	}
	return out.String()
}

// holdTree is P19.6.
func holdTree(t *testing.T, snapshot, root string) {
	t.Helper()
	text, fault := Dialog(snapshot, wholeTree(root))
	if fault != (api.Fault{}) || !strings.HasSuffix(text, "\n\n# 1 done 0\n") {
		t.Fatalf("Dialog(%q, %q) = %q, %v", snapshot, wholeTree(root), text, fault)
	}
	if got, want := treeOf(t, "version: 1\n"+text), treeOf(t, snapshot); got != want {
		t.Fatalf("%q is told as another tree: %q", snapshot, text)
	}
	one, _ := server.Open(snapshot)
	if other, _ := server.Open("version: 1\n" + text); other.Size() != one.Size() || other.Render() != one.Render() {
		t.Fatalf("%q is rendered otherwise when it comes back", snapshot)
	}
}

// P19.6: a tree with several levels, told as it must be, and the same when it comes back.
func TestTree(t *testing.T) {
	snapshot := "version: 1\n\ndn: dc=x\ncreateTimestamp: 2024010112Z\nchangetype: add\ndc: x\ndc: X\n\n" +
		"dn: ou=b,dc=x\nx-odd: 1\nx-odd:: IDE=\nx-odd:\nuserPassword:: /wA=\nmodifiersName: no name\n\n" +
		"dn: cn=1 , OU=B,DC=X\nsn: a\n\ndn: ou=a,dc=x\nou: other\nou;lang-de: A\n\ndn:: b3U9w6ksY249MSxvdT1iLGRjPXg=\ncn;a: v\nCN;A: V\n\ndn: dn=q,ou=a,dc=x\nl: q\n"
	text, _ := Dialog(snapshot, wholeTree("dc=x"))
	if want := "# 1 entry\ndn: dc=x\ncreateTimestamp: 2024010112Z\nchangetype: add\ndc: x\n\n" +
		"# 1 entry\ndn: ou=a,dc=x\nou: other\nou: a\nou;lang-de: A\n\n# 1 entry\ndn: dn=q,ou=a,dc=x\nl: q\n\n" +
		"# 1 entry\ndn: ou=b,dc=x\nx-odd: 1\nx-odd:: IDE=\nx-odd:\nuserPassword:: /wA=\nmodifiersName: no name\nou: b\n\n" +
		"# 1 entry\ndn: cn=1 , OU=B,DC=X\nsn: a\ncn: 1\n\n# 1 entry\ndn:: b3U9w6ksY249MSxvdT1iLGRjPXg=\ncn;a: v\nou:: w6k=\n\n# 1 done 0\n"; text != want {
		t.Errorf("it is told as %q, want %q", text, want)
	}
	holdTree(t, snapshot, "dc=x")
	holdTree(t, snapshot, "DC = X")
	holdTree(t, people, "dc=x")
	holdTree(t, small, "dc=x")
}

// P19.6: roots of every name, the empty one too, and entries that are long.
func TestTreeRoots(t *testing.T) {
	for _, root := range []string{"", "dc=x,dc=y", "cn=a\\,b+sn=?%/#,o=\xc3\xa9 x", "x-odd=1", "dn=x", "cn=\\20\\00", "cn=#0c0141", "cn=" + strings.Repeat("a", api.MaxName-3), strings.Repeat("o=x,", api.MaxParts-1) + "o=x"} {
		holdTree(t, "version: 1\n\ndn:: "+base64.StdEncoding.EncodeToString([]byte(root))+"\ndescription: "+strings.Repeat("long ", 400)+".\n", root)
	}
}

// P19.6: many trees.
func TestTreesByChance(t *testing.T) {
	m := newMaker(195)
	for range 400 {
		snapshot, root := m.snapshot(m.Intn(14))
		holdTree(t, snapshot, root)
	}
}
