package change

import (
	"strings"
	"testing"

	"roster/api"
)

// refusal is what stands behind the front of a text, and what is told of it.
type refusal struct {
	behind string
	err    api.Errno
	line   int
}

func holdRefusals(t *testing.T, front string, all ...refusal) {
	t.Helper()
	for _, x := range all {
		holdRefused(t, front+x.behind, x.err, x.line)
	}
}

// P20.1: the chapter's examples 1 to 4.
func TestExamplesLoaded(t *testing.T) {
	holdLoaded(t, v+"dn: cn=a,o=x\nchangetype: add\ncn: a\nSN: b\n", add(2, "cn=a,o=x", "cn", "a", "SN", "b"))
	holdLoaded(t, v+"\ndn: o=x\ncontrol: 1.2.3 TRUE: v\nCONTROL:1.2\nchangetype:DELETE\n",
		erase(3, "o=x", api.Control{OID: "1.2.3", Critical: true, Value: "v", HasValue: true}, api.Control{OID: "1.2"}))
	holdLoaded(t, v+"dn: o=x\nchangetype: modify\nadd: cn\ncn: a\ncommonName:: Yg==\n-\nreplace: sn\n-\n",
		modify(2, "o=x", change(0, "cn", "a", "b"), change(2, "sn")))
	holdLoaded(t, v+"dn: cn=a,o=x\nchangetype: moddn\nnewrdn: cn=b\ndeleteoldrdn: 1\nnewsuperior:\n",
		beneath(rename(2, "cn=a,o=x", "cn=b", true), ""))
	holdLoaded(t, turning, modify(2, "o=x"))
}

// P20.1: the chapter's examples 5 to 8.
func TestExamplesRefused(t *testing.T) {
	holdRefusals(t, "", refusal{"", api.ErrVersion, 1}, refusal{v, api.ErrBegin, 2})
	holdRefusals(t, named,
		refusal{"o: x\n", api.ErrChangeType, 3}, refusal{"", api.ErrChangeType, 2}, refusal{"changetype: add \n", api.ErrChangeType, 3}, refusal{"changetype:: YWRk\n", api.ErrChangeType, 3},
		refusal{"changetype: add\n", api.ErrBare, 2}, refusal{"changetype: delete\no: x\n", api.ErrChangeLine, 4})
	holdRefusals(t, turning,
		refusal{"add: cn\ncn: a\n", api.ErrModify, 4}, refusal{"add: cn\nsn: a\n-\n", api.ErrModify, 5}, refusal{"cn: a\n-\n", api.ErrModify, 4}, refusal{"add: c n\n-\n", api.ErrModify, 4},
		refusal{"add: cn\ncn\n-\n", api.ErrLine, 5}, refusal{"add: cn\n- \n", api.ErrLine, 5}, refusal{"-\n", api.ErrModify, 4})
	holdRefusals(t, moving,
		refusal{"", api.ErrNewRDN, 2}, refusal{"newrdn: o=y\n", api.ErrDeleteOld, 2}, refusal{"newrdn: o=y\ndeleteoldrdn: yes\n", api.ErrDeleteOld, 5}, refusal{"newrdn:< x\n", api.ErrNewRDN, 4},
		refusal{"newrdn: o=y\ndeleteoldrdn:0\nnewsuperior:< x\n", api.ErrNameSpec, 6}, refusal{"newrdn: o=y\ndeleteoldrdn: 0\nx: y\n", api.ErrChangeLine, 6})
	holdRefusals(t, bearing,
		refusal{" 1\n", api.ErrControlLine, 3}, refusal{" 1.2 yes\n", api.ErrControlLine, 3}, refusal{" 1.2 \n", api.ErrControlLine, 3}, refusal{" 1.2true\n", api.ErrControlLine, 3},
		refusal{" 1.2:< x\n", api.ErrURL, 3}, refusal{" 1.2: :\n", api.ErrValue, 3}, refusal{" 1.2\n", api.ErrChangeType, 2})
}

// P20.1: what ldif.Lines refuses, wherever it stands, is refused ahead of all else.
func TestLinesRefused(t *testing.T) {
	holdRefusals(t, "", refusal{" version: 1\n", api.ErrFold, 1}, refusal{"\r", api.ErrReturn, 1}, refusal{"version: 2\n\n x", api.ErrFold, 3})
	holdRefusals(t, erasing,
		refusal{"\n x\n", api.ErrFold, 5}, refusal{"\rx\n", api.ErrReturn, 4}, refusal{"\nx\n#\r\r\n", api.ErrReturn, 6}, refusal{"o: x\n\n\n ", api.ErrFold, 7}, refusal{"\n\r\n #", api.ErrFold, 6})
}

// P20.1: the version line.
func TestVersion(t *testing.T) {
	const rest = "\n\ndn: o=x\nchangetype: delete\n"
	for _, line := range []string{"version: 1", "version:1", "VERSION:   1", "vErSiOn: 1"} {
		holdLoaded(t, line+rest, erase(3, "o=x"))
		holdLoaded(t, line+rest[1:], erase(2, "o=x"))
		holdLoaded(t, "# c\n\n#\n\n"+line+"\n# d"+rest, erase(8, "o=x"))
		holdLoaded(t, "\n\r\n"+line+rest, erase(5, "o=x"))
		holdRefused(t, line, api.ErrBegin, 2)
		holdRefused(t, line+"\n\n# c\n  d\n", api.ErrBegin, 5)
		holdRefused(t, "\n#\n"+line, api.ErrBegin, 4)
	}
	for _, line := range []string{"version: 2", "version: 1 ", "version:", "version", "version:: MQ==", "version:\t1", "version: 11", "version: 01", "version : 1", "version: 1:", "versio\xc5\x84: 1", "ver\xc5\xbfion: 1", "dn: o=x", "-", "changetype: add"} {
		holdRefused(t, line+rest, api.ErrVersion, 1)
		holdRefused(t, "#c\n\n"+line+rest, api.ErrVersion, 3)
	}
	holdRefusals(t, "", refusal{"\n", api.ErrVersion, 2}, refusal{"\n\n#", api.ErrVersion, 4}, refusal{"#c\n d\n", api.ErrVersion, 3}, refusal{"\r\n\r\n", api.ErrVersion, 3}, refusal{"x", api.ErrVersion, 1}, refusal{"ver\n sion: 1", api.ErrBegin, 3})
	holdRefusals(t, v, refusal{"\n", api.ErrBegin, 3}, refusal{"\n\n#c", api.ErrBegin, 5}, refusal{v, api.ErrBegin, 2}, refusal{"\n#\n" + v, api.ErrBegin, 4})
}

// P20.1: how records are told apart.
func TestManyRecords(t *testing.T) {
	holdLoaded(t, v+"\n\ndn: a\nchangetype: delete\n\n\n#c\n\nDN: b\nchangetype: add\no: x\n\n#\ndn: c\n#\nchangetype: modify\n#\n\n\n", erase(4, "a"), add(10, "b", "o", "x"), modify(15, "c"))
	holdLoaded(t, v+"dn: a\nchangetype: delete\n\ndn: a\nchangetype: delete", erase(2, "a"), erase(5, "a"))
	holdRefusals(t, erasing+"\n",
		refusal{"dn: o=y\n", api.ErrChangeType, 5}, refusal{"dn: o=y\n\ndn: o=z\nchangetype: delete\n", api.ErrChangeType, 5}, refusal{"o: y\n", api.ErrBegin, 5}, refusal{"version: 1\n", api.ErrBegin, 5},
		refusal{"changetype: delete\n", api.ErrBegin, 5}, refusal{"dn: o=y\no: y\n", api.ErrChangeType, 6}, refusal{"-\n", api.ErrBegin, 5}, refusal{"control: 1.2\n", api.ErrBegin, 5}, refusal{"\n\ndn:<\n", api.ErrNameSpec, 7})
	holdRefused(t, erasing+"dn: o=y\nchangetype: delete\n", api.ErrChangeLine, 4)
	holdRefused(t, adding+"\no: x\n", api.ErrBare, 2)
	holdRefused(t, turning+"add: cn\n\n-\n", api.ErrModify, 4)
	holdRefused(t, moving+"\nnewrdn: o=y\n", api.ErrNewRDN, 2)
}

// P20.1: the name.
func TestName(t *testing.T) {
	const rest = "\nchangetype: delete\n"
	for line, name := range map[string]string{
		"dn: o=x": "o=x", "dn:o=x": "o=x", "DN: o=x": "o=x", "dN:   o=x ": "o=x ", "Dn:": "", "dn:  ": "", "dn::": "", "dn:: ": "", "dn:: bz14": "o=x", "dn::bz14": "o=x",
		"dn:: /wA=": "\xff\x00", "dn:\to=x": "\to=x", "dn: no name": "no name", "dn: a:<b": "a:<b",
	} {
		holdLoaded(t, v+line+rest, erase(2, name))
	}
	for _, line := range []string{"o: x", "dn", "dn : o=x", "dnx: o=x", "d: o=x", "-", ": o=x", "x", "dn;x: o=x", "2.5.4.49: o=x", "add: dn"} {
		holdRefused(t, v+line+rest, api.ErrBegin, 2)
	}
	for _, line := range []string{"dn:< o=x", "dn:<", "dn: <", "dn: :", "dn:: *", "dn:: Zg=", "dn:: Zh==", "dn:: Zg== ", "dn:::", "dn: caf\xc3\xa9", "dn: \x00"} {
		holdRefused(t, v+line+rest, api.ErrNameSpec, 2)
	}
}

// P20.1: controls.
func TestControls(t *testing.T) {
	const rest = "\nchangetype: delete\n"
	is := func(oid string, critical bool, value ...string) api.Control {
		c := api.Control{OID: oid, Critical: critical, HasValue: len(value) > 0}
		if c.HasValue {
			c.Value = value[0]
		}
		return c
	}
	for behind, want := range map[string]api.Control{
		" 1.2": is("1.2", false), "1.2": is("1.2", false), "    1.2": is("1.2", false), " 0.0": is("0.0", false), " 1.0.20.300": is("1.0.20.300", false),
		" 99999999999999999999.1": is("99999999999999999999.1", false), " 2.5.4.3": is("2.5.4.3", false),
		" 1.2 true": is("1.2", true), " 1.2 TRUE": is("1.2", true), " 1.2   tRuE": is("1.2", true), " 1.2 false": is("1.2", false), "1.2  FaLsE": is("1.2", false),
		" 1.2:": is("1.2", false, ""), " 1.2: ": is("1.2", false, ""), " 1.2::": is("1.2", false, ""), " 1.2:: ": is("1.2", false, ""), " 1.2:v": is("1.2", false, "v"), " 1.2:   v ": is("1.2", false, "v "),
		" 1.2: true": is("1.2", false, "true"), " 1.2: a:b": is("1.2", false, "a:b"), " 1.2:: /w==": is("1.2", false, "\xff"), " 1.2::Yg==": is("1.2", false, "b"),
		" 1.2 true:": is("1.2", true, ""), " 1.2 true: v": is("1.2", true, "v"), " 1.2 false:: Yg==": is("1.2", false, "b"), " 1.2  True:v": is("1.2", true, "v"), " 1.2:\tv": is("1.2", false, "\tv"),
	} {
		for _, word := range []string{"control", "CONTROL", "Control"} {
			holdLoaded(t, named+word+":"+behind+rest, erase(2, "o=x", want))
			holdLoaded(t, named+"control: 9.9\n"+word+":"+behind+"\ncontrol: 8.8 true"+rest, erase(2, "o=x", is("9.9", false), want, is("8.8", true)))
		}
	}
	for _, behind := range []string{
		"", " ", " 1", " 1.", " .1", " .", " 1.2.", " 1..2", " 01.2", " 1.02", " 00.1", " cn", " true", " 1.2 ", " 1.2  ", " 1.2 yes", " 1.2 tru", " 1.2 trues", " 1.2 truefalse", " 1.2 true1", " 1.2 true-", " 1.2 true ", " 1.2 true false",
		" 1.2 true 1.2", " 1.2true", " 1.2\ttrue", " 1.2 \ttrue", " 1.2 :", " 1.2 : v", " 1.2 true :v", " 1.2;x", " 1.2 1", " 1.2a", " 1.2\xc3\xa9", " 1.2 true\xc3\xa9", " 1.2 t", "\t1.2", " -1.2", " 1.2\x00", ": MS4y", ":1.2", "< 1.2", " :v",
		" 1:v", " 1.2. true:<", " 1.2 yes:<", " 1.2 <", " 1.2<", " 1.2 \xc5\xa5rue", " 1.2 fal\xc5\xbfe", " ;1.2", " 1.2/", " 1.2 [:v", " 1.2 `", " 1.2 true{", " 1.2 true@",
	} {
		holdRefused(t, bearing+behind+rest, api.ErrControlLine, 3)
		holdRefused(t, named+"control: 9.9\nControl:"+behind+rest, api.ErrControlLine, 4)
	}
	holdRefusals(t, bearing, refusal{" 1.2:<" + rest, api.ErrURL, 3}, refusal{" 1.2 true:< x" + rest, api.ErrURL, 3}, refusal{" 1.2: <" + rest, api.ErrValue, 3}, refusal{" 1.2: :" + rest, api.ErrValue, 3},
		refusal{" 1.2:: *" + rest, api.ErrValue, 3}, refusal{" 1.2:: Zh==" + rest, api.ErrValue, 3}, refusal{" 1.2 true: caf\xc3\xa9" + rest, api.ErrValue, 3}, refusal{" 1.2::v" + rest, api.ErrValue, 3},
		refusal{" 1.2\no: x\n", api.ErrChangeType, 4}, refusal{" 1.2\ncontrol\n", api.ErrChangeType, 4}, refusal{" 1.2\n\n", api.ErrChangeType, 2}, refusal{" 1.2\ncontrols: 1.2" + rest, api.ErrChangeType, 4},
		refusal{" 1.2\nchangetype: delete\ncontrol: 1.2\n", api.ErrChangeLine, 5}, refusal{" 1.2\nx: y\ncontrol: 1\n", api.ErrChangeType, 4})
}

// P20.1: behind the changetype line a control's line is one as any other.
func TestControlBehind(t *testing.T) {
	holdLoaded(t, adding+"control: 1\nControl: 1.2 true: v\n", add(2, "o=x", "control", "1", "Control", "1.2 true: v"))
	holdLoaded(t, turning+"add: control\ncontrol: 1\n-\n", modify(2, "o=x", change(0, "control", "1")))
	const line = "control: 1.2\n"
	holdRefused(t, erasing+line, api.ErrChangeLine, 4)
	holdRefused(t, turning+line, api.ErrModify, 4)
	holdRefused(t, turning+"add: cn\n"+line+"-\n", api.ErrModify, 5)
	holdRefused(t, moving+line, api.ErrNewRDN, 4)
	holdRefused(t, moving+"newrdn: o=y\n"+line, api.ErrDeleteOld, 5)
	holdRefused(t, moving+"newrdn: o=y\ndeleteoldrdn: 1\n"+line, api.ErrChangeLine, 6)
}

// P20.1: the changetype line.
func TestChangeType(t *testing.T) {
	for _, x := range []struct {
		word, rest string
		want       api.ChangeRecord
	}{
		{"add", "o: x\n", add(2, "o=x", "o", "x")}, {"delete", "", erase(2, "o=x")}, {"modify", "", modify(2, "o=x")},
		{"modrdn", "newrdn: o=y\ndeleteoldrdn: 0\n", rename(2, "o=x", "o=y", false)}, {"moddn", "newrdn: o=y\ndeleteoldrdn: 0\n", rename(2, "o=x", "o=y", false)},
	} {
		upper := strings.ToUpper(x.word)
		for _, line := range []string{"changetype: " + x.word, "changetype:" + x.word, "changetype:    " + x.word, "CHANGETYPE: " + upper, "ChangeType:" + upper[:1] + x.word[1:], "changetype: " + x.word[:2] + upper[2:]} {
			holdLoaded(t, named+line+"\n"+x.rest, x.want)
		}
		for _, line := range []string{
			"changetype: " + x.word + " ", "changetype:\t" + x.word, "changetype: " + x.word + "\t", "changetype:: " + x.word, "changetype:< " + x.word, "changetype: " + x.word + "s", "changetype: " + x.word[1:], "changetype: " + x.word + " " + x.word,
			"changetype", "changetype " + x.word, "changetype : " + x.word, "changetypes: " + x.word, "change: " + x.word, x.word + ": changetype", ": " + x.word, "changetype;x: " + x.word,
		} {
			holdRefused(t, named+line+"\n"+x.rest, api.ErrChangeType, 3)
		}
	}
	for _, behind := range []string{"", " ", " rename", " replace", " modify-dn", " modrdn:", " m\xc3\xb6ddn", " -", " 0", ": ZGVsZXRl", "<", " delete\x00"} {
		holdRefused(t, named+"changetype:"+behind+"\n", api.ErrChangeType, 3)
	}
	holdRefusals(t, named, refusal{"", api.ErrChangeType, 2}, refusal{"#changetype: delete\n", api.ErrChangeType, 2}, refusal{"-\n", api.ErrChangeType, 3}, refusal{"dn: o=x\nchangetype: delete\n", api.ErrChangeType, 3}, refusal{"\nchangetype: delete\n", api.ErrChangeType, 2})
	holdRefused(t, erasing+"changetype: delete\n", api.ErrChangeLine, 4)
}

// P20.1: attribute lines with values of each sort.
func TestAdd(t *testing.T) {
	holdLoaded(t, adding+"o: x\no:x\nO:   x \no:\no: \no::\no:: eA==\no::IHg=\no: a:<b\no:\tx\no: -\no: #\n",
		add(2, "o=x", "o", "x", "o", "x", "O", "x ", "o", "", "o", "", "o", "", "o", "x", "o", " x", "o", "a:<b", "o", "\tx", "o", "-", "o", "#"))
	holdLoaded(t, adding+"CN;Lang-de;x: x\n2.5.4.3: x\n1.2.3;-: x\ndn;x: x\ndnx: x\nversion: 1\nchangetype: add\nchangetype: x\nadd: cn\nnewrdn: x\n",
		add(2, "o=x", "CN;Lang-de;x", "x", "2.5.4.3", "x", "1.2.3;-", "x", "dn;x", "x", "dnx", "x", "version", "1", "changetype", "add", "changetype", "x", "add", "cn", "newrdn", "x"))
	for _, line := range []string{"o", "-", "- ", "dn: x", "DN: x", "dN:: *", "dn:<", ": x", "o : x", "o;: x", "1: x", "01.2: x", "a_b: x", "-o: x", "c\xc3\xa9: x", "o;;x: x", "o x", "dn", "_:<", "\x00", "\to: x"} {
		holdRefused(t, adding+line+"\n", api.ErrLine, 4)
		holdRefused(t, adding+"o: x\n#\n"+line+"\no:<\n", api.ErrLine, 6)
	}
	for _, line := range []string{"o:<", "o:< x", "o:<file:///x", "O;x:<\x00"} {
		holdRefused(t, adding+line+"\n", api.ErrURL, 4)
		holdRefused(t, adding+"o: x\n"+line+"\n-\n", api.ErrURL, 5)
	}
	for _, line := range []string{"o: <", "o: :", "o: :x", "o:: *", "o:: eA=", "o:: eB==", "o:: eA== ", "o:::", "o: caf\xc3\xa9", "o: \x00", "o: x\x80", "o:\xff"} {
		holdRefused(t, adding+line+"\n", api.ErrValue, 4)
		holdRefused(t, adding+"o: x\n"+line+"\no:<\n", api.ErrValue, 5)
	}
	holdRefused(t, adding, api.ErrBare, 2)
	holdRefused(t, adding+"#o: x\n\n\n", api.ErrBare, 2)
	holdRefused(t, v+"\n\ndn: o=x\ncontrol: 1.2\nchangetype: add", api.ErrBare, 4)
}

// P20.1: behind a deletion stands nothing.
func TestDelete(t *testing.T) {
	holdLoaded(t, erasing, erase(2, "o=x"))
	holdLoaded(t, erasing+"#c\n", erase(2, "o=x"))
	for _, line := range []string{"o: x", "-", "x", "dn: o=y", "dn:<", "control: 1", "changetype: delete", "newrdn: o=y", ":", "\t"} {
		holdRefused(t, erasing+line+"\n", api.ErrChangeLine, 4)
		holdRefused(t, erasing+"#\n#\n"+line+"\nx\n", api.ErrChangeLine, 6)
	}
}

// P20.1: modifications.
func TestModify(t *testing.T) {
	for kind, word := range []string{"add", "delete", "replace"} {
		upper := strings.ToUpper(word)
		holdLoaded(t, turning+word+": cn\n-\n", modify(2, "o=x", change(kind, "cn")))
		holdLoaded(t, turning+upper+":cn\n-\n"+word[:1]+upper[1:]+":   CN\ncn:\n-\n", modify(2, "o=x", change(kind, "cn"), change(kind, "CN", "")))
		holdLoaded(t, turning+word+": cn\ncn: a\ncn: a\ncn:: IA==\ncn:\n-", modify(2, "o=x", change(kind, "cn", "a", "a", " ", "")))
		holdLoaded(t, turning+word+": "+word+"\n"+word+": cn\n"+upper+":-\n-\n", modify(2, "o=x", change(kind, word, "cn", "-")))
	}
	holdLoaded(t, turning+"add: cn\ncommonName: a\n2.5.4.3: b\nCN: c\n-\ndelete: COMMONNAME\ncn: a\n-\nadd: x-odd\nX-ODD: d\n-\n",
		modify(2, "o=x", change(0, "cn", "a", "b", "c"), change(1, "COMMONNAME", "a"), change(0, "x-odd", "d")))
	holdLoaded(t, turning+"replace: sn;b;A\nsurname;a;B: a\n2.5.4.4;A;b;a: b\n-\n", modify(2, "o=x", change(2, "sn;b;A", "a", "b")))
	holdLoaded(t, turning+"add: dn;x\nDN;X: a\n-\nadd: dnx\ndnx: a\n-\nadd: 1.2\n1.2: a\n-\n", modify(2, "o=x", change(0, "dn;x", "a"), change(0, "dnx", "a"), change(0, "1.2", "a")))
	holdLoaded(t, turning+"add: cn\n-\nadd: cn\n-\ndelete: cn\n-\n", modify(2, "o=x", change(0, "cn"), change(0, "cn"), change(1, "cn")))
	for _, line := range []string{
		"cn: a", "-", "- ", "add", "add cn", "add : cn", "adds: cn", "modify: cn", "ad: cn", "increment: cn", ": cn", "add:", "add: ", "add: cn ", "add:\tcn", "add: c n", "add: dn", "add: DN", "delete:dn", "replace: Dn", "add: cn;", "add: 1", "add: 01.2",
		"add:: Y24=", "add:< cn", "add: cn: a", "add: cn:", "add;x: cn", "add: cn,sn", "replace: \xc3\xa9", "dn: o=x", "changetype: modify", "control: 1.2", "repla\xc3\xa7e: cn",
	} {
		holdRefused(t, turning+line+"\n-\n", api.ErrModify, 4)
		holdRefused(t, turning+"add: cn\ncn: a\n-\n#\n"+line+"\n-\n", api.ErrModify, 8)
	}
	for _, line := range []string{"cn", "- ", "--", "-\t", "dn: x", "Dn:<", ": a", "cn : a", "_:<", "cn;: a", "1: a", "-: a", "-cn: a", "\t-"} {
		holdRefused(t, turning+"add: cn\n"+line+"\n-\n", api.ErrLine, 5)
		holdRefused(t, turning+"add: cn\ncn: a\n"+line+"\n-\n", api.ErrLine, 6)
	}
	for _, line := range []string{"sn: a", "name: a", "cn;x: a", "sn:<", "sn: :", "sn:: *", "add: cn", "delete: cn", "changetype: add", "control: 1.2", "2.5.4.4: a", "cnx: a", "dn;x: a"} {
		holdRefused(t, turning+"add: cn\n"+line+"\n-\n", api.ErrModify, 5)
		holdRefused(t, turning+"replace: 2.5.4.3\ncn: a\n"+line+"\n", api.ErrModify, 6)
	}
	holdRefused(t, turning+"add: cn;x\ncn: a\n-\n", api.ErrModify, 5)
	holdRefused(t, turning+"add: name\ncn: a\n-\n", api.ErrModify, 5)
	for _, line := range []string{"cn:<", "CN:< x", "commonName:<\x00"} {
		holdRefused(t, turning+"add: cn\n"+line+"\n-\n", api.ErrURL, 5)
	}
	for _, line := range []string{"cn: <", "CN: :", "commonName:: *", "2.5.4.3:: Zh==", "cn: \xff"} {
		holdRefused(t, turning+"add: cn\n"+line+"\n-\n", api.ErrValue, 5)
	}
}

// P20.1: a modification that isn't ended is told with its first line.
func TestModifyNotEnded(t *testing.T) {
	holdRefusals(t, turning,
		refusal{"add: cn", api.ErrModify, 4}, refusal{"add: cn\ncn: a\ncn: b\n", api.ErrModify, 4}, refusal{"add: cn\n-\nreplace: sn\nsn: a\n\n", api.ErrModify, 6}, refusal{"add: cn\n\n-\n", api.ErrModify, 4},
		refusal{"add: cn\n#-\n", api.ErrModify, 4}, refusal{"#\nadd:\n cn\n#\ncn: a", api.ErrModify, 5}, refusal{"add: cn\n-\n-\n", api.ErrModify, 6}, refusal{"add: cn\ncn: a\n-\n-\n", api.ErrModify, 7},
		refusal{"add: cn\n-\ncn: a\n-\n", api.ErrModify, 6}, refusal{"add: cn\ncn: a\ndelete: sn\nsn: b\n-\n", api.ErrModify, 6}, refusal{"add: cn\n\ndn: o=y\nchangetype: delete\n", api.ErrModify, 4})
}

// P20.1: renamings.
func TestRename(t *testing.T) {
	for _, word := range []string{"modrdn", "moddn", "MODRDN", "ModDN"} {
		front := named + "changetype: " + word + "\n"
		holdLoaded(t, front+"newrdn: o=y\ndeleteoldrdn: 0\n", rename(2, "o=x", "o=y", false))
		holdLoaded(t, front+"newrdn: o=y\ndeleteoldrdn: 1\n", rename(2, "o=x", "o=y", true))
		holdLoaded(t, front+"NEWRDN:o=y\nDeleteOldRDN:   1\nNewSuperior:o=z ", beneath(rename(2, "o=x", "o=y", true), "o=z "))
		holdLoaded(t, front+"newrdn:\ndeleteoldrdn:0\nnewsuperior:\n", beneath(rename(2, "o=x", "", false), ""))
		holdLoaded(t, front+"newrdn:: /w==\ndeleteoldrdn:0\nnewsuperior:: AA==\n", beneath(rename(2, "o=x", "\xff", false), "\x00"))
		holdLoaded(t, front+"newrdn: no name\ndeleteoldrdn: 1\nnewsuperior: neither\n", beneath(rename(2, "o=x", "no name", true), "neither"))
	}
	const first, second, third = "newrdn: o=y\n", "deleteoldrdn: 1\n", "newsuperior: o=z\n"
	for _, line := range []string{"newrdn", "newrdn o=y", "newrdns: o=y", "newrdn : o=y", "newrdn:<", "newrdn: <", "newrdn: :", "newrdn:: *", "newrdn:: Zh==", "newrdn: \xff", ": o=y", "-", "dn: o=y", "newsuperior: o=z", "deleteoldrdn: 1", "rdn: o=y", "o: y", "control: 1.2"} {
		holdRefused(t, moving+line+"\n"+second+third, api.ErrNewRDN, 4)
	}
	for _, line := range []string{
		"deleteoldrdn", "deleteoldrdn 1", "deleteoldrdn:", "deleteoldrdn: ", "deleteoldrdn: 2", "deleteoldrdn: yes", "deleteoldrdn: true", "deleteoldrdn: 01", "deleteoldrdn: 10", "deleteoldrdn: 1 ", "deleteoldrdn:\t1", "deleteoldrdn: -1", "deleteoldrdn:: MQ==", "deleteoldrdn:<1",
		"deleteoldrdns: 1", "deleteoldrdn : 1", "newrdn: o=y", "newsuperior: o=z", "-", "o: y", "deleteoldrdn: \xc2\xb9", "deleteoldrdn:1:", "deleteoldrdn: 0 1",
	} {
		holdRefused(t, moving+first+line+"\n"+third, api.ErrDeleteOld, 5)
	}
	for _, line := range []string{"newsuperior:<", "newsuperior:< x", "newsuperior: <", "NEWSUPERIOR: :", "newsuperior:: *", "newsuperior:: Zh==", "newsuperior: \xff"} {
		holdRefused(t, moving+first+second+line+"\n", api.ErrNameSpec, 6)
		holdRefused(t, moving+first+second+line+"\nx\n", api.ErrNameSpec, 6)
	}
	for _, line := range []string{"newsuperior", "newsuperiors: o=z", "newsuperior : o=z", "-", "x: y", "x", "newrdn: o=y", "deleteoldrdn: 1", "dn: o=z", ":", "control: 1.2", "new\xc5\xbfuperior: o=z"} {
		holdRefused(t, moving+first+second+line+"\n", api.ErrChangeLine, 6)
		holdRefused(t, moving+first+second+third+line+"\n", api.ErrChangeLine, 7)
	}
	holdRefusals(t, moving,
		refusal{"", api.ErrNewRDN, 2}, refusal{first, api.ErrDeleteOld, 2}, refusal{"#" + first, api.ErrNewRDN, 2}, refusal{first + "\n" + second, api.ErrDeleteOld, 2}, refusal{second + first, api.ErrNewRDN, 4}, refusal{third + first + second, api.ErrNewRDN, 4},
		refusal{first + third + second, api.ErrDeleteOld, 5}, refusal{first + first + second, api.ErrDeleteOld, 5}, refusal{first + second + second, api.ErrChangeLine, 6}, refusal{first + second + third + third, api.ErrChangeLine, 7},
		refusal{first + second + first, api.ErrChangeLine, 6}, refusal{first + second + "\n" + third, api.ErrBegin, 7})
}
