package change

import (
	"encoding/base64"
	"math/rand"
	"strings"

	"roster/api"
)

// maker makes texts and records by chance.
type maker struct{ *rand.Rand }

func newMaker(seed int64) maker { return maker{rand.New(rand.NewSource(seed))} }

func pick[E any](m maker, from ...E) E { return from[m.Intn(len(from))] }

// rarely is true once in so many times.
func (m maker) rarely(often int) bool { return m.Intn(often) == 0 }

// someBytes is a text of any bytes.
func (m maker) someBytes(longest int) string {
	b := make([]byte, m.Intn(longest+1))
	m.Read(b)
	return string(b)
}

// cased is a word with letters of any case.
func (m maker) cased(word string) string {
	front := min(1, len(word))
	return pick(m, word, word, word, strings.ToUpper(word), strings.ToUpper(word[:front])+word[front:])
}

func (m maker) fill() string { return pick(m, " ", " ", " ", "", "  ", "   ") }

func (m maker) value() string {
	return pick(m, "", "v", "a b", " v", "v ", ":v", "<v", "a:b", "caf\xc3\xa9", "\x00", "a\nb", "a\rb", "\x7f", "o=x", "-", "#", "1.2", m.someBytes(5))
}

// spec is a value's text behind its ":", nearly always one that gives a value.
func (m maker) spec() string {
	switch {
	case m.rarely(25):
		return pick(m, "<", "< x", " <x", " :", ":Zg=", ": Zh==", ": Zg== ", ":\tZg==", " caf\xc3\xa9", "\x00")
	case m.rarely(3):
		return ":" + m.fill() + base64.StdEncoding.EncodeToString([]byte(m.value()))
	}
	return m.fill() + pick(m, "", "v", "a b", "v ", "a:b", "o=x", "-", "#", "\t")
}

// desc is a description, nearly always one that may stand there.
func (m maker) desc() string {
	if m.rarely(25) {
		return pick(m, "dn", "DN", "", "c n", "cn;", "1", "01.2", "-", "cn ", "a_b", "\xc3\xa9")
	}
	return pick(m, "cn", "cn", "CN", "commonName", "2.5.4.3", "sn", "Surname", "sn;b;A", "sn;a;B;a", "x-odd", "X-Odd", "add", "delete", "changetype", "control", "dn;x", "9.9;-")
}

// alias is another name of the same description, nearly always.
func (m maker) alias(desc string) string {
	if m.rarely(25) {
		return m.desc()
	}
	switch lower(desc) {
	case "cn", "commonname", "2.5.4.3":
		return pick(m, "cn", "CN", "commonName", "2.5.4.3")
	case "sn;b;a", "sn;a;b;a":
		return pick(m, "sn;b;A", "SN;a;B;a", "surname;A;b", "2.5.4.4;b;a;b")
	case "x-odd":
		return pick(m, "x-odd", "X-ODD")
	}
	return m.cased(desc)
}

// identifier is nearly always one.
func (m maker) identifier() string {
	if m.rarely(25) {
		return pick(m, "1", "", "1.", ".1", "01.2", "1.02", "cn", "1..2", "1.2.")
	}
	return pick(m, "1.2", "1.2.3", "0.0", "2.5.4.3", "1.3.6.1.4.1.1466.20036")
}

// Texts.

func (m maker) controlLine() string {
	word := pick(m, "", "", " true", " false", "  TRUE", " False")
	if m.rarely(25) {
		word = pick(m, " ", "true", " yes", " truex", " true ", "\ttrue", " true1", " t")
	}
	return m.cased("control") + ":" + m.fill() + m.identifier() + word + pick(m, "", ":"+m.spec())
}

func (m maker) typeLine(word string) string {
	if m.rarely(25) {
		return pick(m, "changetype: "+word+" ", "changetype:: YWRk", "changetype", "changetype: ", "changetype:\tadd", "change: "+word, "changetype: adds")
	}
	return m.cased("changetype") + ":" + m.fill() + m.cased(word)
}

// lines are those of one record, nearly always of one that is taken.
func (m maker) lines() []string {
	out := []string{m.cased("dn") + ":" + m.spec()}
	for range m.Intn(3) * m.Intn(2) {
		out = append(out, m.controlLine())
	}
	word := pick(m, "add", "delete", "modify", "modify", "modrdn", "moddn")
	out = append(out, m.typeLine(word))
	switch word {
	case "add":
		for range 1 + m.Intn(4) {
			out = append(out, m.desc()+":"+m.spec())
		}
	case "modify":
		for range m.Intn(4) {
			out = append(out, m.modification()...)
		}
	case "modrdn", "moddn":
		out = append(out, m.cased("newrdn")+":"+m.spec(), m.cased("deleteoldrdn")+":"+m.fill()+pick(m, "0", "1"))
		if m.rarely(2) {
			out = append(out, m.cased("newsuperior")+":"+m.spec())
		}
	}
	return m.jumbled(out)
}

func (m maker) modification() []string {
	desc := m.desc()
	out := []string{m.cased(pick(m, "add", "delete", "replace")) + ":" + m.fill() + desc}
	for range m.Intn(4) {
		out = append(out, m.alias(desc)+":"+m.spec())
	}
	return append(out, "-")
}

// jumbled is lines of which now and then one is missing, doubled, or has another behind it.
func (m maker) jumbled(lines []string) []string {
	var out []string
	for _, line := range lines {
		switch m.Intn(60) {
		case 0:
		case 1:
			out = append(out, line, line)
		case 2:
			out = append(out, line, pick(m, "-", "- ", "x", "x: y", "cn: a", "control: 1.2", "dn: o=y", "changetype: add", "newrdn: o=y", "deleteoldrdn: 0", "newsuperior: o=y", "add: cn"))
		default:
			out = append(out, line)
		}
	}
	return out
}

// text is one that nearly always begins as a text of changes does.
func (m maker) text() string {
	var out strings.Builder
	end := func() { out.WriteString(pick(m, "\n", "\n", "\n", "\n", "\r\n")) }
	write := func(line string) {
		if m.rarely(12) {
			out.WriteString(pick(m, "#", "# dn: o=x", "#\n x"))
			end()
		}
		if cut := m.Intn(len(line) + 1); m.rarely(8) && cut > 0 {
			line = line[:cut] + "\n " + line[cut:]
		}
		out.WriteString(line)
		end()
	}
	version := pick(m, "version: 1", "version: 1", "VERSION:1", "version:  1")
	if m.rarely(25) {
		version = pick(m, "version: 2", "version", "", "dn: o=x")
	}
	write(version)
	for n := range pick(m, 1, 1, 2, 2, 3, m.Intn(2)) {
		for range m.Intn(3) + min(n, 1) {
			end()
		}
		for _, line := range m.lines() {
			write(line)
		}
	}
	return out.String() + pick(m, "", "", "\n", "#", "\n\n", "\n\n", pick(m, "", "", "\n ", "\r"))
}

// damaged is a text with a few bytes changed, left out or put in.
func (m maker) damaged(s string) string {
	for range 1 + m.Intn(2) {
		at := m.Intn(len(s) + 1)
		end := min(len(s), at+m.Intn(3))
		s = s[:at] + pick(m, "", " ", ":", "#", "\n", "\n ", "\n\n", "-", "x", "0", "<", ".", "\r", "\xff", m.someBytes(2)) + s[end:]
	}
	return s
}

// Records.

func (m maker) control() api.Control {
	c := api.Control{OID: m.identifier(), Critical: m.rarely(2), HasValue: m.rarely(2)}
	if c.HasValue || m.rarely(25) {
		c.Value = m.value()
	}
	return c
}

// record is one that nearly always can be written.
func (m maker) record() api.ChangeRecord {
	c := api.ChangeRecord{Line: m.Intn(9) - 2, Name: m.value(), Kind: api.ChangeKind(m.Intn(4))}
	for range m.Intn(3) * m.Intn(2) {
		c.Controls = append(c.Controls, m.control())
	}
	m.fit(&c, c.Kind)
	if m.rarely(25) {
		m.fit(&c, api.ChangeKind(m.Intn(4)))
	}
	if m.rarely(40) {
		c.Kind = api.ChangeKind(m.Intn(9) - 2)
	}
	return c
}

// fit gives a record what a kind has.
func (m maker) fit(c *api.ChangeRecord, kind api.ChangeKind) {
	switch kind {
	case api.AddEntry:
		for range m.Intn(6) {
			c.Pairs = append(c.Pairs, api.Pair{Desc: m.desc(), Value: m.value()})
		}
	case api.ModifyEntry:
		for range m.Intn(4) {
			x := api.Change{Kind: m.Intn(3), Desc: m.desc()}
			for range m.Intn(4) {
				x.Values = append(x.Values, m.value())
			}
			if m.rarely(40) {
				x.Kind = m.Intn(7) - 2
			}
			c.Changes = append(c.Changes, x)
		}
	case api.RenameEntry:
		c.NewRDN, c.DeleteOld, c.HasNewSuperior = m.value(), m.rarely(2), m.rarely(2)
		if c.HasNewSuperior || m.rarely(25) {
			c.NewSuperior = m.value()
		}
	}
}

func (m maker) records() []api.ChangeRecord {
	var out []api.ChangeRecord
	for range m.Intn(4) {
		out = append(out, m.record())
	}
	return out
}
