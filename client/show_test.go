package client

import (
	"fmt"
	"math"
	"strings"
	"testing"

	"roster/api"
	"roster/ldif"
)

// P19.2: the chapter's examples.
func TestShowExamples(t *testing.T) {
	holdShown(t, api.Reply{ID: 3, Kind: api.ReplyDone, Result: api.Result{Code: api.NoSuchObject, Matched: "dc=x"}}, "# 3 done 32\nmatched: dc=x\n")
	holdShown(t, api.Reply{ID: 2, Kind: api.ReplyEntry, Name: "dc=x", Attributes: []api.Attr{{Desc: "dc", Values: []string{"x"}}, {Desc: "cn"}, {Desc: "sn", Values: []string{" y"}}}}, "# 2 entry\ndn: dc=x\ndc: x\n# cn\nsn:: IHk=\n\n")
}

// P19.2: every kind, and numbers that are none.
func TestShowKinds(t *testing.T) {
	for kind, word := range map[api.ReplyKind]string{api.ReplyBind: "bind", api.ReplyDone: "done", api.ReplyModify: "modify", api.ReplyAdd: "add", api.ReplyDelete: "delete", api.ReplyRename: "rename", api.ReplyCompare: "compare", api.ReplyExtended: "extended",
		-1: "other", 9: "other", 10: "other", 12: "other", math.MaxInt: "other", math.MinInt: "other"} {
		holdShown(t, api.Reply{Kind: kind}, "# 0 "+word+" 0\n")
		holdShown(t, api.Reply{ID: 77, Kind: kind, Result: api.Result{Code: 53, Matched: "m", Text: "t"}, OID: "1.2", HasOID: true, Controls: []api.Control{{OID: "1.3"}, {OID: "1.4", Critical: true, Value: "v", HasValue: true}}},
			"# 77 "+word+" 53\nmatched: m\ntext: t\noid: 1.2\ncontrol: 1.3\ncontrol: 1.4\n")
		// What an entry has is told of no other kind.
		holdShown(t, api.Reply{ID: 1, Kind: kind, Name: "n", Attributes: []api.Attr{{Desc: "cn", Values: []string{"v"}}}}, "# 1 "+word+" 0\n")
	}
	holdShown(t, api.Reply{Kind: api.ReplyEntry}, "# 0 entry\ndn:\n\n")
	// What the others have is told of no entry.
	holdShown(t, api.Reply{ID: 1, Kind: api.ReplyEntry, Name: "n", Result: api.Result{Code: 1, Matched: "m", Text: "t"}, OID: "1.2", HasOID: true, Controls: []api.Control{{OID: "1.3"}}}, "# 1 entry\ndn: n\n\n")
}

// P19.2: ids and codes of any size.
func TestShowNumbers(t *testing.T) {
	for _, n := range []int{0, 1, 9, 10, 127, 128, api.MaxID, api.MaxID + 1, -1, -80, math.MaxInt, math.MinInt} {
		holdShown(t, api.Reply{ID: n, Kind: api.ReplyBind, Result: api.Result{Code: api.Code(n)}}, fmt.Sprintf("# %d bind %d\n", n, n))
		holdShown(t, api.Reply{ID: n, Kind: api.ReplyEntry}, fmt.Sprintf("# %d entry\ndn:\n\n", n))
	}
}

// P19.2: what is there, is there and empty, and is not there.
func TestShowResult(t *testing.T) {
	r := api.Reply{ID: 4, Kind: api.ReplyExtended}
	r.HasOID = true
	holdShown(t, r, "# 4 extended 0\noid:\n")
	r.OID = " 1"
	holdShown(t, r, "# 4 extended 0\noid:: IDE=\n")
	r.HasOID = false
	holdShown(t, r, "# 4 extended 0\n")
	r.Result.Matched = "\xc3\xa9"
	holdShown(t, r, "# 4 extended 0\nmatched:: w6k=\n")
	r.Result.Text = "a\nb"
	holdShown(t, r, "# 4 extended 0\nmatched:: w6k=\ntext:: YQpi\n")
	r.Result.Matched = ""
	holdShown(t, r, "# 4 extended 0\ntext:: YQpi\n")
	r.Controls = []api.Control{{}, {OID: "1.2"}, {Value: "v", HasValue: true}, {OID: ":"}}
	holdShown(t, r, "# 4 extended 0\ntext:: YQpi\ncontrol:\ncontrol: 1.2\ncontrol:\ncontrol:: Og==\n")
	r.Controls = []api.Control{}
	holdShown(t, r, "# 4 extended 0\ntext:: YQpi\n")
}

func entryOf(name string, attributes ...api.Attr) api.Reply {
	return api.Reply{ID: 5, Kind: api.ReplyEntry, Name: name, Attributes: attributes}
}

// P19.2: entries without attributes, attributes without a value and with several, in their order; what is equal is told again.
func TestShowEntry(t *testing.T) {
	holdShown(t, entryOf("dc=x"), "# 5 entry\ndn: dc=x\n\n")
	holdShown(t, entryOf("dc=x", []api.Attr{}...), "# 5 entry\ndn: dc=x\n\n")
	holdShown(t, entryOf(" dc=x", api.Attr{Desc: "cn", Values: []string{}}), "# 5 entry\ndn:: IGRjPXg=\n# cn\n\n")
	holdShown(t, entryOf("", api.Attr{Desc: "sn", Values: []string{"b", "", "a", "b"}}, api.Attr{Desc: "sn"}, api.Attr{Desc: "cn;x", Canon: "told nowhere", Values: []string{"c"}}, api.Attr{Desc: "sn", Values: []string{"b"}}),
		"# 5 entry\ndn:\nsn: b\nsn:\nsn: a\nsn: b\n# sn\ncn;x: c\nsn: b\n\n")
	// Descriptions and names are written as they stand.
	holdShown(t, entryOf("\xff\n", api.Attr{}, api.Attr{Desc: " \xff\n:", Values: []string{"v", " "}}, api.Attr{Desc: "\r"}), "# 5 entry\ndn:: /wo=\n# \n \xff\n:: v\n \xff\n::: IA==\n# \r\n\n")
}

// P19.2: each byte alone, at the front, in the middle and at the end of a value, and so of every line that has one.
func TestShowValues(t *testing.T) {
	for b := range 256 {
		s := string([]byte{byte(b)})
		for _, value := range []string{s, s + "x", "x" + s + "y", "x" + s, s + s} {
			line := slowShow(entryOf(value))[len("# 5 entry\ndn"):]
			line = line[:len(line)-1]
			if strings.Count(line, "\n") != 1 {
				t.Fatalf("%q is more than a line", line)
			}
			holdShown(t, entryOf(value, api.Attr{Desc: "cn", Values: []string{value}}), "# 5 entry\ndn"+line+"cn"+line+"\n")
			holdShown(t, api.Reply{Kind: api.ReplyDone, Result: api.Result{Matched: value, Text: value}, OID: value, HasOID: true, Controls: []api.Control{{OID: value}}}, "# 0 done 0\nmatched"+line+"text"+line+"oid"+line+"control"+line)
			// As chapter 7 writes it.
			rendered, err, _ := ldif.Render([]api.Record{{Name: value, Pairs: []api.Pair{{Desc: "cn", Value: value}}}})
			if err != api.OK || rendered != "version: 1\n\ndn"+line+"cn"+line {
				t.Errorf("of %q chapter 7 writes %q", value, rendered)
			}
		}
	}
}

// P19.2: replies by chance.
func TestShowByChance(t *testing.T) {
	m := newMaker(191)
	for range 20000 {
		r := m.reply()
		if got, want := Show(r), slowShow(r); got != want {
			t.Fatalf("Show(%s) = %q, want %q", told(r), got, want)
		}
	}
}

// P19.2: no line is folded, and nothing is too long.
func TestShowLong(t *testing.T) {
	long := strings.Repeat("0123456789", 20000)
	var many []api.Attr
	want := "# 5 entry\ndn: " + long + "\n"
	for range 2000 {
		many = append(many, api.Attr{Desc: "cn", Values: []string{"a", "b"}}, api.Attr{Desc: "sn"})
		want += "cn: a\ncn: b\n# sn\n"
	}
	holdShown(t, entryOf(long, many...), want+"\n")
}
