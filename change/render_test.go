package change

import (
	"math"
	"strings"
	"testing"

	"roster/api"
	"roster/ldif"
)

// holdWritten holds the text of some records.
func holdWritten(t *testing.T, want string, cs ...api.ChangeRecord) {
	t.Helper()
	if got, err, at := Render(cs); got != want || err != api.OK || at != 0 {
		t.Errorf("Render(%s) = %q, %d, %d; want %q", told(cs), got, err, at, want)
	}
	holdRendered(t, cs)
}

// P20.3: the chapter's example, and each kind with and without controls.
func TestRenderTold(t *testing.T) {
	plain := api.Control{OID: "1.2"}
	critical := api.Control{OID: "0.0.10", Critical: true}
	empty := api.Control{OID: "1.2", HasValue: true}
	raw := api.Control{OID: "1.2", Critical: true, Value: "a: b", HasValue: true}
	coded := api.Control{OID: "1.2", Critical: true, Value: " ", HasValue: true}
	const controls = "control: 1.2\ncontrol: 0.0.10 true\ncontrol: 1.2:\ncontrol: 1.2 true: a: b\ncontrol: 1.2 true:: IA==\n"
	all := []api.Control{plain, critical, empty, raw, coded}
	for _, x := range []struct {
		c           api.ChangeRecord
		name, lines string
	}{
		{add(9, "o=x", "o", "x"), "dn: o=x\n", "changetype: add\no: x\n"},
		{add(-1, "", "O;x", "", "dn;x", " x", "1.2.3", "x ", "control", "caf\xc3\xa9", "changetype", "add", "o", "a:b", "o", ":", "o", "<", "o", "\n", "o", "#", "o", "-"), "dn:\n",
			"changetype: add\nO;x:\ndn;x:: IHg=\n1.2.3:: eCA=\ncontrol:: Y2Fmw6k=\nchangetype: add\no: a:b\no:: Og==\no:: PA==\no:: Cg==\no: #\no: -\n"},
		{erase(0, "\xff"), "dn:: /w==\n", "changetype: delete\n"},
		{modify(3, " o=x"), "dn:: IG89eA==\n", "changetype: modify\n"},
		{modify(3, "o=x", change(1, "cn")), "dn: o=x\n", "changetype: modify\ndelete: cn\n-\n"},
		{modify(3, "o=x", change(0, "CN;Y;x", "a", "", " b", "a"), change(2, "dn;x", "-"), change(2, "1.2"), change(0, "add", "cn")), "dn: o=x\n",
			"changetype: modify\nadd: CN;Y;x\nCN;Y;x: a\nCN;Y;x:\nCN;Y;x:: IGI=\nCN;Y;x: a\n-\nreplace: dn;x\ndn;x: -\n-\nreplace: 1.2\n-\nadd: add\nadd: cn\n-\n"},
		{rename(3, "o=x", "o=y", false), "dn: o=x\n", "changetype: modrdn\nnewrdn: o=y\ndeleteoldrdn: 0\n"},
		{rename(3, "o=x", "", true), "dn: o=x\n", "changetype: modrdn\nnewrdn:\ndeleteoldrdn: 1\n"},
		{beneath(rename(3, "o=x", "\x00", true), ""), "dn: o=x\n", "changetype: modrdn\nnewrdn:: AA==\ndeleteoldrdn: 1\nnewsuperior:\n"},
		{beneath(rename(3, "o=x", "o=y", false), "o=z "), "dn: o=x\n", "changetype: modrdn\nnewrdn: o=y\ndeleteoldrdn: 0\nnewsuperior:: bz16IA==\n"},
	} {
		for controls, c := range map[string]api.ChangeRecord{"": x.c, controls: bears(x.c, all...)} {
			one := "\n" + x.name + controls + x.lines
			holdWritten(t, v+one, c)
			holdWritten(t, v+one+"\ndn: o=x\nchangetype: delete\n"+one, c, erase(0, "o=x"), c)
		}
	}
	holdWritten(t, v+"\ndn: o=x\ncontrol: 1.2 true:: IA==\nchangetype: modify\ndelete: cn\n-\n", bears(modify(9, "o=x", change(1, "cn")), coded))
}

// with is a record changed by what is done to it.
func with(c api.ChangeRecord, do func(c *api.ChangeRecord)) api.ChangeRecord {
	do(&c)
	return c
}

// unwritten are records that no text means, each for one reason.
func unwritten() []api.ChangeRecord {
	fine := map[string]api.ChangeRecord{"add": add(1, "o=x", "o", "x"), "erase": erase(1, "o=x"), "modify": modify(1, "o=x", change(0, "cn", "a")), "rename": rename(1, "o=x", "o=y", true)}
	out := list(add(1, "o=x"), api.ChangeRecord{}, api.ChangeRecord{Name: "o=x", Pairs: []api.Pair{}},
		with(rename(1, "o=x", "o=y", true), func(c *api.ChangeRecord) { c.NewSuperior = "o=z" }))
	for _, kind := range []api.ChangeKind{-1, 4, 5, 99, math.MinInt, math.MaxInt} {
		out = append(out, with(fine["erase"], func(c *api.ChangeRecord) { c.Kind = kind }))
	}
	for _, kind := range []int{-1, 3, 4, math.MinInt, math.MaxInt} {
		out = append(out, modify(1, "o=x", change(kind, "cn")), modify(1, "o=x", change(2, "cn"), change(kind, "cn", "a")))
	}
	for _, desc := range []string{"", "dn", "DN", "Dn", "c n", "cn ", " cn", "cn;", "cn;;x", ";x", "1", "1.", "01.2", "1.2.", "a_b", "-", "-cn", "cn:", "#cn", "cn\n", "c\xc3\xa9", "\x00"} {
		out = append(out, add(1, "o=x", desc, "x"), add(1, "o=x", "o", "x", desc, ""), modify(1, "o=x", change(0, desc)), modify(1, "o=x", change(1, "cn", "a"), change(2, desc, "x")))
	}
	for _, c := range fine {
		for _, oid := range []string{"", "1", "cn", "1.", ".1", "1..2", "01.2", "1.02", "1.2;x", "1.2 ", " 1.2", "1.2 true", "1.2:", "a1.2", "1.2a", "-", "1.-2", "dn"} {
			out = append(out, bears(c, api.Control{OID: oid}), bears(c, api.Control{OID: "1.2"}, api.Control{OID: oid, Critical: true, HasValue: true, Value: "v"}))
		}
		out = append(out, bears(c, api.Control{OID: "1.2", Value: "v"}), bears(c, api.Control{OID: "1.2"}, api.Control{OID: "1.2", Value: " ", Critical: true}))
	}
	for kind, c := range fine {
		if kind != "add" {
			out = append(out, with(c, func(c *api.ChangeRecord) { c.Pairs = pairs("o", "x") }))
		}
		if kind != "modify" {
			out = append(out, with(c, func(c *api.ChangeRecord) { c.Changes = []api.Change{change(0, "cn", "a")} }), with(c, func(c *api.ChangeRecord) { c.Changes = []api.Change{{}} }))
		}
		if kind != "rename" {
			out = append(out, with(c, func(c *api.ChangeRecord) { c.NewRDN = "o=y" }), with(c, func(c *api.ChangeRecord) { c.DeleteOld = true }),
				with(c, func(c *api.ChangeRecord) { c.NewSuperior = "o=z" }), with(c, func(c *api.ChangeRecord) { c.HasNewSuperior = true }))
		}
	}
	return out
}

// P20.3: what can't be written, and the place of the first such record.
func TestRenderRefused(t *testing.T) {
	for _, none := range [][]api.ChangeRecord{nil, {}, noneWithRoom()} {
		if got, err, at := Render(none); got != "" || err != api.ErrBegin || at != 0 {
			t.Errorf("Render of none = %q, %d, %d", got, err, at)
		}
	}
	fine := add(1, "o=x", "o", "x")
	for _, c := range unwritten() {
		for place, cs := range [][]api.ChangeRecord{{c, fine}, {fine, c}, {fine, fine, c, add(1, "")}} {
			if got, err, at := Render(cs); got != "" || err != api.ErrUnwritten || at != place {
				t.Errorf("Render(%s) = %q, %d, %d; want %d", told(cs), got, err, at, place)
			}
			holdRendered(t, cs)
		}
	}
	if got, err, at := Render(list(erase(0, "o=x"), add(0, "o=y"))); got != "" || err != api.ErrUnwritten || at != 1 {
		t.Errorf("the example is %q, %d, %d", got, err, at)
	}
}

// noneWithRoom is an empty list with room, and records in it.
func noneWithRoom() []api.ChangeRecord { return everyRecord()[:0] }

// P20.3: empty lists that the kind doesn't name are zero values as nil ones are.
func TestRenderEmptyLists(t *testing.T) {
	for _, c := range everyRecord() {
		want, _, _ := Render(list(c))
		if c.Pairs == nil {
			c.Pairs = []api.Pair{}
		}
		if c.Changes == nil {
			c.Changes = []api.Change{}
		}
		if c.Controls == nil {
			c.Controls = []api.Control{}
		}
		if got, err, at := Render(list(c)); got != want || err != api.OK || at != 0 {
			t.Errorf("of empty lists: %q, %d, %d; want %q", got, err, at, want)
		}
		holdAsked(t, list(c), 1)
	}
}

// P20.3: every value of up to two bytes, wherever one stands; its line is the one that ldif.Render writes.
func TestRenderEveryValue(t *testing.T) {
	hold := func(value string) {
		c := api.Control{OID: "1.2", Value: value, HasValue: true}
		cs := list(bears(add(0, value, "o", value), c), modify(0, value, change(1, "o", value)), beneath(rename(0, value, value, true), value))
		holdRendered(t, cs)
		snapshot, _, _ := ldif.Render([]api.Record{{Name: value, Pairs: pairs("o", value)}})
		changes, _, _ := Render(cs[:1])
		kept := func(s string) string {
			var out []string
			for line := range strings.Lines(s) {
				if !strings.HasPrefix(line, "c") {
					out = append(out, line)
				}
			}
			return strings.Join(out, "")
		}
		if kept(changes) != snapshot {
			t.Fatalf("of %q: %q, not as in %q", value, changes, snapshot)
		}
	}
	for a := range 256 {
		hold(string([]byte{byte(a)}))
		for b := range 256 {
			if a%8 == b%8 || a < 64 && b < 64 { // not all of them: each takes a while
				hold(string([]byte{byte(a), byte(b)}))
			}
		}
	}
}

// P20.3: every byte at every place of a description and of a control's OID.
func TestRenderEveryDesc(t *testing.T) {
	for _, s := range []string{"o", "dn", "cn;x", "1.2", "10.0.3"} {
		for at := range len(s) + 1 {
			for b := range 256 {
				for _, near := range []string{s[:at] + string([]byte{byte(b)}) + s[at:], s[:at] + string([]byte{byte(b)}) + s[min(at+1, len(s)):], s[:at], s[at:]} {
					holdRendered(t, list(add(0, "a", "o", "", near, "b")))
					holdRendered(t, list(modify(0, "a", change(0, near, "b"))))
					holdRendered(t, list(erase(0, "a", api.Control{OID: near})))
				}
			}
		}
	}
}

// P20.3: lists at random; and what Load gives, Render takes.
func TestRenderAtRandom(t *testing.T) {
	m := newMaker(203)
	done := 0
	for range 20000 {
		cs := m.records()
		holdRendered(t, cs)
		if _, err, _ := Render(cs); err == api.OK {
			done++
		}
	}
	if done < 5000 {
		t.Errorf("of the lists only %d are written", done)
	}
	for range 5000 {
		s := m.text()
		cs, err, _ := Load(s)
		if err != api.OK {
			continue
		}
		if _, err, at := Render(cs); err != api.OK || at != 0 {
			t.Fatalf("Render(Load(%q)): %d, %d", s, err, at)
		}
	}
}

// P20.3: no line is folded, however long it is.
func TestRenderLong(t *testing.T) {
	long := strings.Repeat("x", 5000)
	cs := list(bears(add(0, long, long, long), api.Control{OID: "1.2" + strings.Repeat(".3", 5000), Value: long, HasValue: true}), modify(0, long, change(0, long, long, long+" ")), beneath(rename(0, long, long, true), long))
	got, _, _ := Render(cs)
	if strings.Count(got, "\n") != 19 || strings.Contains(got, "\n ") {
		t.Errorf("%d line ends", strings.Count(got, "\n"))
	}
	holdRendered(t, cs)
}
