package ldif

import (
	"math/rand"
	"strings"
	"testing"

	"roster/api"
)

// head is a snapshot up to its first record's first attribute.
const head = "version: 1\ndn: o=x\n"

// P7.2: the chapter's examples of what is taken, and the edges that its words name.
func TestLoadTaken(t *testing.T) {
	for _, x := range []struct {
		s    string
		want []api.Record
	}{
		{head + "o: x\n", []api.Record{record(2, "o=x", "o", "x")}},
		{"# hi\n\nVERSION:1\n\nDN:: bz14\nO:x \ncn:: \n", []api.Record{record(5, "o=x", "O", "x ", "cn", "")}},
		{head + "o: x\nchangetype: add\n", []api.Record{record(2, "o=x", "o", "x", "changetype", "add")}},
		{head + "o: a\n#c\n  more\n b\n", []api.Record{record(2, "o=x", "o", "a")}},
		// Without a last line end; with returns; blank lines ahead, between and behind.
		{head + "o: x", []api.Record{record(2, "o=x", "o", "x")}},
		{strings.ReplaceAll(head+"o: x\n", "\n", "\r\n"), []api.Record{record(2, "o=x", "o", "x")}},
		{"\n\nversion: 1\n\n\ndn: o=x\no: x\n\n\n", []api.Record{record(6, "o=x", "o", "x")}},
		{head + "o: x\n\ndn: o=y\no: y", []api.Record{record(2, "o=x", "o", "x"), record(5, "o=y", "o", "y")}},
		{head + "o: x\n\n\n\ndn: o=y\no: y\n\n", []api.Record{record(2, "o=x", "o", "x"), record(7, "o=y", "o", "y")}},
		{head + "o: x\r\n\r\ndn: o=y\r\no: y", []api.Record{record(2, "o=x", "o", "x"), record(5, "o=y", "o", "y")}},
		// Comments in every place; a comment ends no record.
		{"#\n#\nversion: 1\n#\ndn: o=x\n#\no: x\n#\n", []api.Record{record(5, "o=x", "o", "x")}},
		{head + "o: x\n\n#\n\ndn: o=y\no: y\n#", []api.Record{record(2, "o=x", "o", "x"), record(7, "o=y", "o", "y")}},
		{head + "o: x\n# dn: o=z\ncn: y\n", []api.Record{record(2, "o=x", "o", "x", "cn", "y")}},
		{head + "o: x\n #y\n", []api.Record{record(2, "o=x", "o", "x#y")}},
		// Lines that go on, in words and in values, and the first line's number.
		{"ver\n sion:\n  1\nd\n n: o\n =x\no\n : \n  x\n", []api.Record{record(4, "o=x", "o", "x")}},
		{"version: 1\n \ndn:: b\n z14\n \no:\n : e\n A=\n =\n", []api.Record{record(3, "o=x", "o", "x")}},
		{head + "o: x\n  \n  \ncn: y\n", []api.Record{record(2, "o=x", "o", "x  ", "cn", "y")}},
		// The version line in every spelling.
		{"VeRsIoN:1\ndn:\no:\n", []api.Record{record(2, "", "o", "")}},
		{"version:     1\ndn:\no:\n", []api.Record{record(2, "", "o", "")}},
		// Names of any bytes, empty ones too; values raw and in base64, with blanks at either end.
		{"version: 1\ndn:\no:\n", []api.Record{record(2, "", "o", "")}},
		{"version: 1\ndn:   \no:   \n", []api.Record{record(2, "", "o", "")}},
		{"version: 1\ndn::\no::\n", []api.Record{record(2, "", "o", "")}},
		{"version: 1\ndn:: /wo=\no:: IAA=\n", []api.Record{record(2, "\xff\n", "o", " \x00")}},
		{"version: 1\ndn: a:: b \no:  x  \n", []api.Record{record(2, "a:: b ", "o", "x  ")}},
		{"version: 1\ndn:o=x\no:x\ncn:a<:b \n", []api.Record{record(2, "o=x", "o", "x", "cn", "a<:b ")}},
		{head + "o:\tx\t\ncn: \t \n", []api.Record{record(2, "o=x", "o", "\tx\t", "cn", "\t ")}},
		{head + "o: #x\n", []api.Record{record(2, "o=x", "o", "#x")}},
		// Descriptions just as they stand.
		{head + "CommonName;B;a;b: x\n2.5.4.3: y\n1.2: z\n", []api.Record{record(2, "o=x", "CommonName;B;a;b", "x", "2.5.4.3", "y", "1.2", "z")}},
		{head + "dn;x: a\ndnx: b\nversion: 2\n", []api.Record{record(2, "o=x", "dn;x", "a", "dnx", "b", "version", "2")}},
		{head + "changetype;x: a\ncontrol: b\nCONTROL: c\nChangeType: d\n", []api.Record{record(2, "o=x", "changetype;x", "a", "control", "b", "CONTROL", "c", "ChangeType", "d")}},
		{head + "controls: a\n", []api.Record{record(2, "o=x", "controls", "a")}},
		{head + "o: x\no: x\n", []api.Record{record(2, "o=x", "o", "x", "o", "x")}},
		// Two records of one name are no fault of this layer's.
		{head + "o: x\n\ndn: o=x\no: x\n", []api.Record{record(2, "o=x", "o", "x"), record(5, "o=x", "o", "x")}},
	} {
		got, err, at := Load(x.s)
		if !sameRecords(got, x.want) || err != api.OK || at != 0 {
			t.Errorf("Load(%#v) = %#v, %d, %d; want %#v", x.s, got, err, at, x.want)
		}
		holdRead(t, x.s)
	}
}

// P7.2: every error of the layer with its line.
func TestLoadRefused(t *testing.T) {
	for _, x := range []struct {
		s    string
		want fault
	}{
		{"", fault{72, 1}},
		{"dn: o=x\no: x\n", fault{72, 1}},
		{"version: 2\n", fault{72, 1}},
		{"version: 1 \n", fault{72, 1}},
		{"version: 1\n\n", fault{73, 3}},
		{"#c", fault{72, 2}},
		{"version: 1\ncn: x\n", fault{73, 2}},
		{head + "\ndn: o=y\no: y\n", fault{79, 2}},
		{"version: 1\ndn:< file:x\no: x\n", fault{74, 2}},
		{"version: 1\ndn: caf\xc3\xa9\no: x\n", fault{74, 2}},
		{head + "changetype: add\n", fault{78, 3}},
		{head + "o x\n", fault{75, 3}},
		{head + "o: x\ndn: o=y\no: y\n", fault{75, 4}},
		{head + "o:<file:///x\n", fault{77, 3}},
		{head + "o: :x\n", fault{76, 3}},
		{head + "o:: Zh==\n", fault{76, 3}},
		{head + "o: x\n\ndn: o=y\no y\n", fault{75, 6}},
		// The lines' own faults, ahead of all else.
		{"dn\n\r", fault{70, 2}},
		{"dn\n\n x", fault{71, 3}},
		{head + "o: x\n\n dn: y\n", fault{71, 5}},
		{" version: 1\n", fault{71, 1}},
		{"version: 1\n x\n\r", fault{70, 3}},
		// No version line: the end's number, with and without a last line end.
		{"\n", fault{72, 2}},
		{"\n\n", fault{72, 3}},
		{"#c\n", fault{72, 2}},
		{"#c\n d\n#e\n\n", fault{72, 5}},
		{"\r\n#", fault{72, 3}},
		// What just is no version line.
		{"version 1\n", fault{72, 1}},
		{"version:\n", fault{72, 1}},
		{"version\n", fault{72, 1}},
		{"version: 11\n", fault{72, 1}},
		{"version: 01\n", fault{72, 1}},
		{"version:\t1\n", fault{72, 1}},
		{"version: 1\t\n", fault{72, 1}},
		{"version :1\n", fault{72, 1}},
		{"version:: MQ==\n", fault{72, 1}},
		{"version:< 1\n", fault{72, 1}},
		{"versio: 1\n", fault{72, 1}},
		{"xversion: 1\n", fault{72, 1}},
		{"version: 1: 1\n", fault{72, 1}},
		{"\tversion: 1\n", fault{72, 1}},
		{"ver\xc5\xbfion: 1\n", fault{72, 1}},
		{"vers\xc4\xb0on: 1\n", fault{72, 1}},
		{"\n#\n\nversion: 2\ndn\n", fault{72, 4}},
		{"version: 1\n 2\n", fault{72, 1}},
		// No record: the end's number.
		{"version: 1", fault{73, 2}},
		{"version: 1\n", fault{73, 2}},
		{"version: 1\n#c\n\n#d", fault{73, 5}},
		{"version: 1\r\n\r\n", fault{73, 3}},
		// What just is no name's line.
		{"version: 1\ndn\n", fault{73, 2}},
		{"version: 1\ndn o=x\n", fault{73, 2}},
		{"version: 1\n\n\ndn : o=x\no: x\n", fault{73, 4}},
		{"version: 1\ndnx: o=x\no: x\n", fault{73, 2}},
		{"version: 1\ndn;x: o=x\no: x\n", fault{73, 2}},
		{"version: 1\n\tdn: o=x\no: x\n", fault{73, 2}},
		{"version: 1\nversion: 1\ndn: o=x\no: x\n", fault{73, 2}},
		{"version: 1\n:dn: o=x\no: x\n", fault{73, 2}},
		{head + "o: x\n\ncn: x\n", fault{73, 5}},
		{head + "o: x\n\nversion: 1\n", fault{73, 5}},
		// A name that its line doesn't give, ahead of a record without an attribute.
		{"version: 1\ndn: o=x\x00\n", fault{74, 2}},
		{"version: 1\ndn:<\n", fault{74, 2}},
		{"version: 1\ndn: <x\n", fault{74, 2}},
		{"version: 1\ndn: :x\n", fault{74, 2}},
		{"version: 1\ndn:: Zh==\n", fault{74, 2}},
		{"version: 1\ndn:: bz14 \n", fault{74, 2}},
		{"version: 1\ndn:: :\n", fault{74, 2}},
		{head + "o: x\n\ndn:: x\ncn: x\n", fault{74, 5}},
		// A record without an attribute, by a blank line or the end, comments let go.
		{"version: 1\ndn: o=x", fault{79, 2}},
		{head, fault{79, 2}},
		{head + "#o: x\n", fault{79, 2}},
		{head + "#\n\no: x\n", fault{79, 2}},
		{"version: 1\ndn: o\n =x\n\n", fault{79, 2}},
		{head + "o: x\n\n\ndn: o=y\n", fault{79, 6}},
		{head + "\n\r\n", fault{79, 2}},
		// What just is no attribute's line.
		{head + "o\n", fault{75, 3}},
		{head + ": x\n", fault{75, 3}},
		{head + "o : x\n", fault{75, 3}},
		{head + "o;: x\n", fault{75, 3}},
		{head + "1: x\n", fault{75, 3}},
		{head + "a_b: x\n", fault{75, 3}},
		{head + "\to: x\n", fault{75, 3}},
		{head + "o: x\n\t\n", fault{75, 4}},
		{head + "dn: x\n", fault{75, 3}},
		{head + "Dn:< x\n", fault{75, 3}},
		{head + "caf\xc3\xa9: x\n", fault{75, 3}},
		{head + "o: x\n-\n", fault{75, 4}},
		{head + "changetype\n", fault{75, 3}},
		{head + "control\n", fault{75, 3}},
		// Changes, ahead of what is wrong with the value; comments don't count as a second line.
		{head + "CONTROL: x\n", fault{78, 3}},
		{head + "ChangeType:< x\n", fault{78, 3}},
		{head + "control:: x\n", fault{78, 3}},
		{head + "#c\nchange\n type: add\n", fault{78, 4}},
		{head + "o: x\n\ndn: o=y\ncontrol: x\n", fault{78, 6}},
		{head + "o: x\ncontrol:<x\n", fault{77, 4}},
		// Values by reference, and values that there are none.
		{head + "o:<\n", fault{77, 3}},
		{head + "o: x\n\ndn: o=y\no: y\n#\no:< x\n", fault{77, 8}},
		{head + "o: <x\n", fault{76, 3}},
		{head + "o: caf\xc3\xa9\n", fault{76, 3}},
		{head + "o: a\x00\n", fault{76, 3}},
		{head + "o::Zg=\n", fault{76, 3}},
		{head + "o:: Zg==\n  \n", fault{76, 3}},
		{head + "o:::\n", fault{76, 3}},
		{head + "o::\tZg==\n", fault{76, 3}},
		{head + "o: x\ncn: y\nsn: :\n", fault{76, 5}},
		// Of two faults the first in the order of reading.
		{"version: 2\ndn\n", fault{72, 1}},
		{"version: 1\ncn: x\no\n", fault{73, 2}},
		{head + "o: :\no\n", fault{76, 3}},
		{head + "o\no: :\n", fault{75, 3}},
		{head + "o:<\n\ndn:<\n", fault{77, 3}},
		{head + "o: x\n\ndn: o=y\n\ndn:<\n", fault{79, 5}},
	} {
		got, err, at := Load(x.s)
		if len(got) != 0 || (fault{err, at}) != x.want {
			t.Errorf("Load(%#v) = %#v, %d, %d; want %v", x.s, got, err, at, x.want)
		}
		holdRead(t, x.s)
	}
}

// P7.2, P7.3: every short row of lines of every kind.
func TestLoadAllThrough(t *testing.T) {
	lines := []string{
		"version: 1\n", "VERSION:1\n", "version: 2\n", "dn: o=x\n", "DN::\n", "dn:<\n", "o: x\n", "o\n",
		"control: x\n", "o:<x\n", "o: :\n", "\n", "#c\n", " x\n", "o:", "\r",
	}
	forAll(lines, 4, func(s string) { holdRead(t, s) })
	for _, ahead := range []string{"version: 1\n", head, head + "o: x\n", head + "o: x\n\n"} {
		forAll(lines[1:], 3, func(s string) { holdRead(t, ahead+s) })
	}
}

// P7.2: the texts of values, all short ones of the bytes that matter.
func TestLoadValuesAllThrough(t *testing.T) {
	bytes := []string{":", "<", " ", "Z", "g", "=", "\t", "\xff", "#"}
	forAll(bytes, 5, func(s string) {
		holdRead(t, head+"o:"+s+"\n")
		holdRead(t, "version: 1\ndn:"+s+"\no:")
	})
	words := []string{"o", "1", "2", ".", ";", "-", "0", " ", ":", "dn", "D"}
	forAll(words, 4, func(s string) { holdRead(t, head+s+": x\n") })
}

// P7.2: every byte at every place.
func TestLoadEveryByte(t *testing.T) {
	for _, s := range []string{
		head + "o: x\n",
		"# hi\n\nVERSION:1\n\nDN:: bz14\nO:x \ncn:: \n",
		"version:  1\r\ndn:: /wo=\r\n#\r\ncn;a:b\r\n c\r\n\r\ndn: y\r\no:: Zm8=",
		head + "ChangeType: add\n",
		head + "control: x\n",
	} {
		forAllNear(s, func(s string) { holdRead(t, s) })
	}
}

// P7.2, P7.3: texts at random.
func TestLoadAtRandom(t *testing.T) {
	r := rand.New(rand.NewSource(72))
	taken := 0
	for range 30000 {
		s := someSnapshot(r)
		holdRead(t, s)
		if _, err, _ := Load(s); err == api.OK {
			taken++
		}
	}
	if taken < 500 {
		t.Errorf("of the texts only %d are snapshots", taken)
	}
}

// P7.2: words of any length, and long values.
func TestLoadLong(t *testing.T) {
	long := strings.Repeat("x", 100000)
	holdRead(t, "version:"+strings.Repeat(" ", 100000)+"1\ndn: "+long+"\n"+long+";"+long+": "+long+"\n")
	holdRead(t, head+"o:"+strings.Repeat(" ", 100000)+"\n")
	holdRead(t, head+"o:: "+strings.Repeat("Zm9v", 30000)+"\n")
	holdRead(t, head+"o:: "+strings.Repeat("Zm9v", 30000)+"Z\n")
	holdRead(t, head+"o: "+long+"\xff\n")
}
