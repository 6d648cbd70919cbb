package patch

import (
	"math/rand"
	"slices"
	"strings"

	"roster/api"
	"roster/change"
	"roster/dit"
	"roster/dn"
	"roster/entry"
	"roster/ldif"
)

// maker makes trees and changes by chance.
type maker struct{ *rand.Rand }

func newMaker(seed int64) maker { return maker{rand.New(rand.NewSource(seed))} }

func pick[E any](m maker, from ...E) E { return from[m.Intn(len(from))] }

// rarely is true once in so many times.
func (m maker) rarely(often int) bool { return m.Intn(often) == 0 }

// part is the text of a name's part; several of them mean the same.
func (m maker) part() string {
	return pick(m, "cn=1", "CN=1", "commonName = 1 ", "2.5.4.3=\\31", "cn=2", "cn=a", "cn=A", "sn=a", "sn=1", "ou=a", "OU=A", "ou=\\61", "cn=1+sn=a", "SN=A + cn=1", "dn=1", "DN=1+cn=a", "changetype=a", "Control=a", "control=A+cn=a",
		"labeledURI=U", "labeledURI=u", "labeledURI=U+cn=1", "uidNumber=07", "uidNumber=7", "x-odd=a", "x-odd=A", `cn=a\,b`, `cn=a\2Cb`, `cn=\\`, `cn=\5c`, `cn=\ `, "cn=", "cn=#040131", "mail=m+l=b+c=d", "cn=a!")
}

// respelled is another text of the same name, of texts that are made of part alone.
func (m maker) respelled(name string) string {
	switch m.Intn(6) {
	case 0:
		return strings.ToUpper(name)
	case 1:
		return strings.ToLower(name)
	case 2:
		own, rest := slowCut(name)
		if rest != "" {
			return own + pick(m, " , ", ",  ", " ,") + m.respelled(rest)
		}
	}
	return name
}

func (m maker) desc() string {
	return pick(m, "cn", "CN", "commonName", "sn", "Surname", "sn;x", "SN;X", "mail", "ou", "o", "l", "labeledURI", "uidNumber", "x-odd", "X-Odd", "changetype", "ChangeType", "control", "description", "dn;x")
}

func (m maker) value() string {
	return pick(m, "1", "a", "A", " a", "b", "2", "U", "u", "7", "07", "m", "x", "", "\\", "a,b", "\xff", "caf\xc3\xa9")
}

func (m maker) values(most int) []string {
	var out []string
	for range m.Intn(most + 1) {
		out = append(out, m.value())
	}
	return out
}

func (m maker) pairs(least int) []api.Pair {
	var out []api.Pair
	for range least + m.Intn(4) {
		out = append(out, api.Pair{Desc: m.desc(), Value: m.value()})
	}
	return out
}

// entries is a tree's list of sound entries, as a snapshot's records may have them; the root is the same nearly always.
func (m maker) entries(most int) []api.Entry {
	var out []api.Entry
	hang := func(name string) {
		e, err := entry.Make(api.Record{Line: 1 + m.Intn(50), Name: name, Pairs: m.pairs(1)})
		if err == api.OK && slowFind(out, e.Key) < 0 && slowSound(e) {
			out = append(out, e)
		}
	}
	for len(out) == 0 {
		hang(pick(m, "o=x", "o=x", "o=x", "O=X", "", "ou=a,o=x"))
	}
	for range m.Intn(most + 1) {
		parent := pick(m, pick(m, out...), out[len(out)-1])
		hang(strings.TrimSuffix(m.part()+","+m.respelled(parent.Name), ","))
	}
	return out
}

// oddEntries is a tree's list in which some entries are such as no Make makes.
func (m maker) oddEntries(most int) []api.Entry {
	out := m.entries(most)
	for i := range out {
		if m.rarely(2) {
			m.spoilEntry(&out[i])
		}
	}
	if len(out) > 1 && m.rarely(4) {
		// A key that no name has, or that another name has, with all that stands beneath.
		was := out[1+m.Intn(len(out)-1)].Key
		last := len(was) - 1
		part := pick(m, "", "none", "CN=1", "cn=1", "cn=a,b", "ou=a")
		if slowFind(out, append(slices.Clone(was[:last]), part)) < 0 {
			for i, e := range out {
				if isFront(was, e.Key) {
					out[i].Key = slices.Concat(was[:last], []string{part}, e.Key[last+1:])
				}
			}
		}
	}
	return out
}

func (m maker) spoilEntry(e *api.Entry) {
	place := m.Intn(len(e.Attrs) + 1)
	switch m.Intn(7) {
	case 0:
		e.Name = pick(m, "", "none", "cn=1", ",o=x", "cn=1,o=y", "cn=1\\,o=x", m.part(), m.part()+",o=x")
	case 1:
		e.Attrs = nil
	case 2:
		e.Attrs = slices.Insert(e.Attrs, place, at(m.desc(), pick(m, "cn", "sn", "CN", "none such", "", "x-odd", "control"), m.values(3)...))
	case 3:
		e.Attrs = slices.Insert(e.Attrs, place, at(pick(m, "cn", "commonName", "Control"), "cn", m.values(3)...))
	case 4:
		e.Attrs = slices.Insert(e.Attrs, place, at(pick(m, "sn", "surname", "changetype"), "sn"))
	case 5:
		e.Attrs = slices.Delete(e.Attrs, max(0, place-1), place)
	case 6:
		e.Attrs = slices.Insert(e.Attrs, place, at(pick(m, "dn", "DN", "no desc", "cn"), "dn", "v"))
	}
}

// name is nearly always that of an entry that is there.
func (m maker) name(entries []api.Entry) string {
	if m.rarely(8) {
		return pick(m, "", "o=x", "o=y", "cn=1", "none", "cn=1,cn=1,cn=1,o=x", "o=x,", "cn=\xff")
	}
	e := pick(m, entries...)
	parts := slices.Clone(e.Key)
	slices.Reverse(parts)
	return m.respelled(pick(m, e.Name, strings.Join(parts, ",")))
}

// change is one that can be done, more often than not.
func (m maker) change(entries []api.Entry) api.ChangeRecord {
	c := api.ChangeRecord{Line: 1 + m.Intn(90), Name: m.name(entries), Kind: api.ChangeKind(m.Intn(4))}
	m.fit(&c, entries)
	switch m.Intn(60) {
	case 0:
		c.Kind = api.ChangeKind(m.Intn(9) - 3)
	case 1:
		c.Controls = []api.Control{{OID: "1.2", Critical: m.rarely(2)}, {Critical: m.rarely(4)}}
	case 2:
		c.NewRDN = pick(m, "", "cn", "cn=1,o=x", "cn=1,")
	case 3:
		c.Pairs = nil
	case 4:
		c.Pairs = append(c.Pairs, api.Pair{Desc: pick(m, "dn", "DN", "", "c n"), Value: "v"})
	case 5:
		c.Changes = append(c.Changes, to(m.Intn(6)-1, pick(m, "dn", "DN", "", "c n", "sn"), m.values(1)...))
	}
	return c
}

// fit gives a change what its kind asks for, and now and then what it doesn't.
func (m maker) fit(c *api.ChangeRecord, entries []api.Entry) {
	asks := func(kind api.ChangeKind) bool { return c.Kind == kind || m.rarely(8) }
	if asks(api.AddEntry) {
		c.Pairs = m.pairs(1)
		if c.Kind == api.AddEntry && !m.rarely(5) {
			c.Name = strings.TrimSuffix(m.part()+pick(m, ",", " , ")+c.Name, ",")
		}
	}
	if asks(api.ModifyEntry) {
		for range m.Intn(4) {
			x := to(m.Intn(3), m.desc(), m.values(3)...)
			if e := pick(m, entries...); len(e.Attrs) > 0 && m.rarely(2) {
				a := pick(m, e.Attrs...)
				x.Desc = a.Desc
				if len(a.Values) > 0 && m.rarely(2) {
					x.Values = append(x.Values, pick(m, a.Values...))
				}
			}
			if x.Kind == 0 && len(x.Values) == 0 && !m.rarely(20) {
				x.Values = []string{m.value()}
			}
			c.Changes = append(c.Changes, x)
		}
	}
	if asks(api.RenameEntry) {
		c.NewRDN, c.DeleteOld, c.HasNewSuperior = m.part(), m.rarely(2), m.rarely(2)
		if c.HasNewSuperior || m.rarely(8) {
			c.NewSuperior = m.name(entries)
		}
	}
}

// changes are made of entries as they are ahead of all of them, or, where these can be done, as each finds them.
func (m maker) changes(entries []api.Entry, most int) []api.ChangeRecord {
	var out []api.ChangeRecord
	for range m.Intn(most + 1) {
		c := m.change(entries)
		made, err := slowApply(entries, c)
		if err != api.OK && !m.rarely(6) {
			continue
		}
		if err == api.OK {
			entries = made
		}
		out = append(out, c)
	}
	return out
}

// inOrder is entries in canonical order.
func inOrder(entries []api.Entry) []api.Entry {
	out := slices.Clone(entries)
	slices.SortFunc(out, func(a, b api.Entry) int { return dn.Compare(a.Key, b.Key) })
	return out
}

// altered is a tree's list that mostly means the same as another, or nearly so.
func (m maker) altered(entries []api.Entry) []api.Entry {
	out := slowCopy(entries)
	for i := range out {
		e := &out[i]
		switch m.Intn(6) {
		case 0:
			e.Line++
		case 1:
			e.Name = m.respelled(e.Name)
		case 2:
			m.Shuffle(len(e.Attrs), func(a, b int) { e.Attrs[a], e.Attrs[b] = e.Attrs[b], e.Attrs[a] })
		case 3:
			if len(e.Attrs) > 0 {
				a := &e.Attrs[m.Intn(len(e.Attrs))]
				a.Values = append(slices.Clone(a.Values), pick(m, m.value(), strings.ToUpper(strings.Join(a.Values[:min(1, len(a.Values))], ""))))
			}
		case 4:
			made, err := entry.Make(api.Record{Name: m.respelled(e.Name), Pairs: m.pairs(1)})
			if err == api.OK && slices.Equal(made.Key, e.Key) {
				*e = made
			}
		}
		if m.rarely(3) {
			made, err := entry.Make(entry.Back(*e))
			if err == api.OK && slices.Equal(made.Key, e.Key) {
				*e = made
			}
		}
	}
	return out
}

// texts is a snapshot and a text of changes, now and then with a fault.
func (m maker) texts() (string, string) {
	entries := m.entries(6)
	var records []api.Record
	for _, e := range entries {
		records = append(records, entry.Back(e))
	}
	snapshot, err, _ := ldif.Render(records)
	if err != api.OK {
		snapshot = "version: 1\ndn: o=x\no: x\n\ndn: cn=1,o=x\nsn: a\n"
	}
	changes, err, _ := change.Render(sayable(m.changes(inOrder(entries), 5)))
	if err != api.OK {
		changes = "version: 1\ndn: o=x\nchangetype: modify\n"
	}
	if m.rarely(6) {
		snapshot = m.damaged(snapshot)
	}
	if m.rarely(6) {
		changes = m.damaged(changes)
	}
	return snapshot, changes
}

// sayable is changes without what a text can't say.
func sayable(cs []api.ChangeRecord) []api.ChangeRecord {
	var out []api.ChangeRecord
	for _, c := range cs {
		only := api.ChangeRecord{Line: c.Line, Name: c.Name, Kind: c.Kind}
		switch c.Kind {
		case api.AddEntry:
			only.Pairs = c.Pairs
		case api.ModifyEntry:
			only.Changes = c.Changes
		case api.RenameEntry:
			only.NewRDN, only.DeleteOld, only.HasNewSuperior = c.NewRDN, c.DeleteOld, c.HasNewSuperior
			if c.HasNewSuperior {
				only.NewSuperior = c.NewSuperior
			}
		}
		out = append(out, only)
	}
	return out
}

// damaged is a text with a few bytes changed, left out or put in.
func (m maker) damaged(s string) string {
	at := m.Intn(len(s) + 1)
	end := min(len(s), at+m.Intn(3))
	return s[:at] + pick(m, "", " ", ":", "#", "\n", "\n ", "\n\n", "-", "x", "0", "<", "=", ",", "\r", "\xff") + s[end:]
}

func (m maker) tree(entries []api.Entry) *dit.Tree {
	tree, err, _ := dit.Build(entries)
	if err != api.OK {
		panic("no tree: " + told(entries))
	}
	return tree
}
