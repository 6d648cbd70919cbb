package change

import (
	"strings"
	"testing"

	"roster/api"
	"roster/ldif"
)

// every is a text with a line of every kind, and everyRecord what it means.
const every = v +
	"\ndn: cn=Ann Lee,o=x\ncontrol: 1.2.3 true: v\ncontrol: 1.2\nchangetype: add\ncn: Ann Lee\nSN:: TGVl\n" +
	"\ndn:: bz15\ncontrol: 1.2 false:: IA==\nchangetype: DELETE\n" +
	"\nDN: o=z\nchangetype: modify\nadd: cn\ncn: a\ncommonName: b\n-\ndelete: sn;x;Y\n-\nreplace: o\no:\n-\n" +
	"\ndn:\nchangetype: moddn\nnewrdn: cn=b\ndeleteoldrdn: 1\nnewsuperior: o=y\n" +
	"\ndn: o=w\nchangetype: modrdn\nnewrdn:: IA==\ndeleteoldrdn: 0\n"

func everyRecord() []api.ChangeRecord {
	return list(
		bears(add(3, "cn=Ann Lee,o=x", "cn", "Ann Lee", "SN", "Lee"), api.Control{OID: "1.2.3", Critical: true, Value: "v", HasValue: true}, api.Control{OID: "1.2"}),
		erase(10, "o=y", api.Control{OID: "1.2", Value: " ", HasValue: true}),
		modify(14, "o=z", change(0, "cn", "a", "b"), change(1, "sn;x;Y"), change(2, "o", "")),
		beneath(rename(26, "", "cn=b", true), "o=y"),
		rename(32, "o=w", " ", false),
	)
}

// P20.1: a line of every kind.
func TestEvery(t *testing.T) {
	holdLoaded(t, every, everyRecord()...)
	holdLoaded(t, strings.ReplaceAll(every, "\n", "\r\n"), everyRecord()...)
	holdLoaded(t, strings.TrimRight(every, "\n"), everyRecord()...)
}

// P20.1: comments, folded ones too, between all lines; the lines' numbers go on.
func TestCommentsAnywhere(t *testing.T) {
	const comment = "# dn: o=x\n -\n  \n#\n"
	want := everyRecord()
	for i := range want {
		want[i].Line = 5*(want[i].Line-1) + 1 + 4
	}
	s := ""
	for line := range strings.Lines(every) {
		s += comment + line
	}
	holdLoaded(t, s+comment, want...)
	for i, line := range strings.SplitAfter(every, "\n") {
		before := strings.Join(strings.SplitAfter(every, "\n")[:i], "")
		holdText(t, before+comment+line+every[len(before)+len(line):])
		holdText(t, before+comment+line)
	}
}

// P20.1, P20.5: folded at any place, a text means the same.
func TestFoldedAnywhere(t *testing.T) {
	for at := 1; at < len(every); at++ {
		if every[at-1] == '\n' {
			continue // what begins a line, or a blank one, can't go on
		}
		for _, fold := range []string{"\n ", "\r\n ", "\n \n "} {
			s := every[:at] + fold + every[at:]
			got, err, line := Load(s)
			if told(unnumbered(got)) != told(unnumbered(everyRecord())) || err != api.OK || line != 0 {
				t.Errorf("Load(%q) = %s, %d, %d", s, told(got), err, line)
			}
			holdText(t, s)
		}
	}
}

// P20.1: of a folded line the number is that of its first physical line.
func TestFaultOfFoldedLine(t *testing.T) {
	holdRefusals(t, v+"dn:\n o=\n x\n",
		refusal{"", api.ErrChangeType, 2}, refusal{"change\n type: ad\n", api.ErrChangeType, 5}, refusal{"con\n trol: 1\n", api.ErrControlLine, 5}, refusal{"control: 1.2\n :<", api.ErrURL, 5}, refusal{"control: 1.2:\n \n  :", api.ErrValue, 5},
		refusal{"changetype: \n add\n", api.ErrBare, 2}, refusal{"changetype: a\n dd\n o:\n x\no\n ", api.ErrChangeType, 5}, refusal{"changetype: a\n dd\no:\n  x\no\n ", api.ErrLine, 9}, refusal{"changetype: del\n ete\n#\n c\nx\n y", api.ErrChangeLine, 9},
		refusal{"changetype: modify\nadd\n :cn\ncn:\n a\n", api.ErrModify, 6}, refusal{"changetype: modify\nadd:\n cn\ncn:\n a\n-\n  \n", api.ErrLine, 10},
		refusal{"changetype: moddn\nnew\n rdn:<", api.ErrNewRDN, 6}, refusal{"changetype: moddn\nnewrdn:\n  y\ndeleteoldrdn:\n  2", api.ErrDeleteOld, 8}, refusal{"changetype: moddn\nnewrdn:\n  y\ndeleteoldrdn:\n 1\nnewsuperior\n \n :<", api.ErrNameSpec, 10})
}

// P20.5: Refold at several widths.
func TestRefolded(t *testing.T) {
	for width := 2; width < 80; width++ {
		folded, err, _ := ldif.Refold(every, width)
		if err != api.OK {
			t.Fatalf("Refold at %d: %d", width, err)
		}
		if got, err, at := Load(folded); told(unnumbered(got)) != told(unnumbered(everyRecord())) || err != api.OK || at != 0 {
			t.Errorf("at the width %d: %s, %d, %d", width, told(got), err, at)
		}
		holdText(t, folded)
	}
	for _, s := range []string{adding + "o:: *\n", turning + "add: commonName\ncn: aaaaaa\nsn: aaaaaa\n-\n", moving, bearing + " 1.2 trues\n", named + "o: x\n", erasing + "further: line\n", "version: 2\n", v} {
		for _, width := range []int{2, 3, 5, 8, 76} {
			holdFolded(t, s, width)
		}
	}
}

// P20.5: no text is both a snapshot and one of changes.
func TestApart(t *testing.T) {
	for _, s := range []string{every, adding + "o: x\n", erasing, turning, moving + "newrdn:\ndeleteoldrdn: 1\n", bearing + " 1.2\nchangetype: delete\n", v + "\n\n#\nDN:\n#\n#\nChangeType: delete\n", v + "dn: o=\n x\nControl\n :1.2\nchangetype: delete\n"} {
		if _, err, _ := Load(s); err != api.OK {
			t.Errorf("Load(%q): %d", s, err)
		}
		holdApart(t, s)
	}
	for _, s := range []string{named + "o: x\n", named + "o: x\nchangetype: add\n", v + "\ndn: o=x\n#\n#\no: x\n\ndn: o=y\no: y\n", v + "dn: o=x\nchangetype;x: delete\n", v + "dn: o=\n x\nadd: cn\n", named + "newrdn: o=y\n"} {
		if _, err, _ := ldif.Load(s); err != api.OK {
			t.Errorf("ldif.Load(%q): %d", s, err)
		}
		holdApart(t, s)
	}
	for _, x := range []struct {
		s    string
		line int
	}{{every, 4}, {erasing, 3}, {v + "\n\n#\ndn: o=x\n#\n#\nchangetype: delete\n", 8}, {v + "dn: o=\n x\n#\ncontrol\n :1.2\nchangetype: delete\n", 5}} {
		if got, err, at := ldif.Load(x.s); len(got) != 0 || err != api.ErrChange || at != x.line {
			t.Errorf("ldif.Load(%q) = %s, %d, %d; want line %d", x.s, told(got), err, at, x.line)
		}
	}
	holdRefusals(t, "", refusal{named + "o: x\n", api.ErrChangeType, 3}, refusal{named + "o: x\nchangetype: add\n", api.ErrChangeType, 3}, refusal{v + "\n#\ndn: o=x\n#\no: x\n\ndn: o=y\no: y\n", api.ErrChangeType, 6}, refusal{v + "dn: o=\n x\nchangetype;x: delete\n", api.ErrChangeType, 4})
}

// P20.1: of two faults the one that is read first is told.
func TestTwoFaults(t *testing.T) {
	for _, s := range []string{v + "dn:<\n", v + "o: x\n", bearing + " 1\n", bearing + " 1.2:<\n", named + "x\n", adding + "x\n", erasing + "x\n", turning + "x\n", turning + "add: cn\nx\n", moving + "x\n"} {
		_, err, at := Load(s)
		for _, behind := range []string{"o\n", "control: 1\n", "changetype: ad\n", "-\n", "\nx\n", "\ndn: o=y\n"} {
			holdRefused(t, s+behind, err, at)
		}
	}
	holdRefusals(t, v,
		refusal{"dn:<\nx\n\n x", api.ErrFold, 5}, refusal{"dn:<\nx\n\r\r\n", api.ErrReturn, 4}, refusal{"x\n\ndn:<\n", api.ErrBegin, 2}, refusal{"dn:<\n\nx\n", api.ErrNameSpec, 2}, refusal{"dn: o=x\ncontrol: 1\ncontrol: 1.2:<\nx\n", api.ErrControlLine, 3},
		refusal{"dn: o=x\ncontrol: 1.2:<\ncontrol: 1\nx\n", api.ErrURL, 3}, refusal{"dn: o=x\ncontrol: 1.2\n\ndn:<\n", api.ErrChangeType, 2}, refusal{"dn: o=x\nchangetype: add\no: \xff\no\n", api.ErrValue, 4}, refusal{"dn: o=x\nchangetype: add\no\no:<\n", api.ErrLine, 4},
		refusal{"dn: o=x\nchangetype: add\no:<\no:: *\n", api.ErrURL, 4}, refusal{"dn: o=x\nchangetype: add\n\nx\n", api.ErrBare, 2}, refusal{"dn: o=x\nchangetype: delete\nx\n\nx\n", api.ErrChangeLine, 4},
		refusal{"dn: o=x\nchangetype: modify\nadd: cn\nx\nsn: a\n", api.ErrLine, 5}, refusal{"dn: o=x\nchangetype: modify\nadd: cn\nsn: a\nx\n", api.ErrModify, 5}, refusal{"dn: o=x\nchangetype: modify\nadd: cn\n\nx\n", api.ErrModify, 4},
		refusal{"dn: o=x\nchangetype: modify\nadd: dn\ndn: a\n", api.ErrModify, 4}, refusal{"dn: o=x\nchangetype: modrdn\nnewrdn:<\ndeleteoldrdn: 2\n", api.ErrNewRDN, 4}, refusal{"dn: o=x\nchangetype: modrdn\nnewrdn:\ndeleteoldrdn: 2\nnewsuperior:<\n", api.ErrDeleteOld, 5})
}

// P20.1, P20.2: every byte put in, turned or taken away at every place.
func TestNear(t *testing.T) {
	const s = "version: 1\ndn: x\ncontrol: 1.2 true: v\nchangetype: modify\nadd: cn\ncn: a\n-\n\ndn:\nchangetype: modrdn\nnewrdn: y\ndeleteoldrdn: 1\nnewsuperior:\n\ndn: z\nchangetype: add\no:: eA==\n"
	for at := range len(s) + 1 {
		for b := range 256 {
			holdText(t, s[:at]+string([]byte{byte(b)})+s[at:])
			if at < len(s) {
				holdText(t, s[:at]+string([]byte{byte(b)})+s[at+1:])
			}
		}
		if at < len(s) {
			holdText(t, s[:at]+s[at+1:])
		}
		holdText(t, s[:at])
		holdText(t, "version: 1\n"+s[at:])
	}
}

// P20.1, P20.2, P20.5: texts at random.
func TestTextsAtRandom(t *testing.T) {
	m := newMaker(201)
	taken, errs := 0, map[api.Errno]int{}
	for range 20000 {
		s := m.text()
		if m.rarely(4) {
			s = m.damaged(s)
		}
		holdText(t, s)
		holdApart(t, s)
		if m.rarely(4) {
			holdFolded(t, s, 2+m.Intn(20))
		}
		got, err, _ := Load(s)
		errs[err]++
		if err == api.OK {
			taken++
			holdRendered(t, got)
		}
	}
	// OK, nine of chapter 7 and six of this one.
	if taken < 5000 || len(errs) != 16 {
		t.Errorf("%d texts are taken, and the errors are %v", taken, errs)
	}
}
