package server

import (
	"encoding/base64"
	"math/rand"
	"slices"
	"strings"
	"testing"

	"roster/api"
	"roster/msg"
)

// spellings are parts of names, each written in several ways.
func spellings() [][]string {
	return [][]string{
		{"cn=Ann Lee", "CN=ann  lee", "commonName = ANN LEE ", "2.5.4.3=\\41nn Lee", "cn=#0c07416e6e204c6565"},
		{"cn=1", "Cn=1", "2.5.4.3=\\31"},
		{"cn=1+sn=b", "SN=B+cn=1", "surname=b + commonName=1"},
		{"cn=1!", "CN=1!"},
		{"ou=a\\,b", "OU=A\\2cB"},
		{"ou=caf\\c3\\a9", "ou=caf\xc3\xa9", "OU=CAF\xc3\xa9"},
		{"uid=x", "userid=X", "0.9.2342.19200300.100.1.1=x"},
		{"l=", "L=  ", "localityName=\\20"},
		{"x-odd=1", "X-ODD=1"},
		{"dn=x", "DN=x"},
		{"changetype=add", "ChangeType=add"},
		{"description=" + strings.Repeat("long ", 30), "DESCRIPTION=" + strings.Repeat("long ", 29) + "LONG"},
	}
}

// path tells parts by their numbers, the root's first: two names are the same if their paths are.
type path []int

func pick[E any](r *rand.Rand, from []E) E { return from[r.Intn(len(from))] }

// maker makes snapshots, requests and streams by chance.
type maker struct{ *rand.Rand }

func newMaker(seed int64) maker { return maker{rand.New(rand.NewSource(seed))} }

// spelt is a name of this path, each part written in one of its ways.
func (m maker) spelt(p path) string {
	var parts []string
	for _, number := range slices.Backward(p) {
		parts = append(parts, pick(m.Rand, spellings()[number]))
	}
	return strings.Join(parts, pick(m.Rand, []string{",", ", ", " ,"}))
}

// paths are those of a snapshot that is accepted, each behind its parent's.
func (m maker) paths(count int) []path {
	all := []path{pick(m.Rand, []path{nil, {0}, {6}, {6, 4}, {8}})}
	for range count {
		child := append(slices.Clone(pick(m.Rand, all)), m.Intn(len(spellings())))
		if !slices.ContainsFunc(all, func(p path) bool { return slices.Equal(p, child) }) {
			all = append(all, child)
		}
	}
	return all
}

// pairs are a record's: one at least, and the first none of those that a change has there.
func (m maker) pairs() []api.Pair {
	all := []api.Pair{
		{Desc: "changetype", Value: "add"}, {Desc: "control", Value: "1.2"},
		{Desc: "objectClass", Value: "Person"}, {Desc: "OBJECTCLASS", Value: "person"}, {Desc: "objectClass", Value: "top"},
		{Desc: "commonName", Value: " ann lee"}, {Desc: "cn", Value: "ANN LEE "}, {Desc: "cn;lang-de", Value: "1"}, {Desc: "sn", Value: "b"}, {Desc: "SN;x;A", Value: "B"}, {Desc: "sn;a;X", Value: "b"},
		{Desc: "mail", Value: "ann@x"}, {Desc: "mail", Value: "caf\xc3\xa9"}, {Desc: "userPassword", Value: "\x00\xff\r\n"}, {Desc: "userPassword", Value: ""},
		{Desc: "uidNumber", Value: "7"}, {Desc: "uidNumber", Value: "007"}, {Desc: "x-odd", Value: "1"}, {Desc: "x-odd", Value: "1 "}, {Desc: "X-Odd", Value: ":1"}, {Desc: "x-odd", Value: "<1"},
		{Desc: "description", Value: strings.Repeat("0123456789", 20)}, {Desc: "description", Value: strings.Repeat("\xc3\xa9", 70)}, {Desc: "createTimestamp", Value: "2024010112Z"},
	}
	out := []api.Pair{pick(m.Rand, all[2:])}
	for range m.Intn(6) {
		out = append(out, pick(m.Rand, all))
	}
	return out
}

// line is a line of a snapshot, with a value raw or in base64, and folded or not.
func (m maker) line(desc, value string) string {
	text := desc + ":: " + base64.StdEncoding.EncodeToString([]byte(value))
	if value == "" || plain(value) && m.Intn(3) > 0 {
		text = desc + ":" + strings.Repeat(" ", m.Intn(3)) + value
	}
	if m.Intn(4) == 0 {
		at := 1 + m.Intn(len(text)-1)
		text = text[:at] + "\n " + text[at:]
	}
	if m.Intn(6) == 0 {
		text += "\n# a comment\n  that goes on"
	}
	return text + pick(m.Rand, []string{"\n", "\r\n"})
}

// records are those of a snapshot, each as its lines.
func (m maker) records(paths []path) [][]string {
	var out [][]string
	for _, p := range paths {
		lines := []string{m.line("dn", m.spelt(p))}
		for _, pair := range m.pairs() {
			lines = append(lines, m.line(pair.Desc, pair.Value))
		}
		out = append(out, lines)
	}
	return out
}

func snapshotOf(records [][]string) string {
	out := "# a snapshot\nVersion: 1\n"
	for _, lines := range records {
		out += "\n" + strings.Join(lines, "")
	}
	return out
}

// snapshot is one that is accepted.
func (m maker) snapshot(paths []path) string { return snapshotOf(m.records(paths)) }

// damaged is a snapshot with some faults of any kind; it may still be none.
func (m maker) damaged(paths []path) string {
	records := m.records(paths)
	for range m.Intn(3) {
		at := m.Intn(len(records))
		lines := slices.Clone(records[at])
		if len(lines) < 2 {
			break
		}
		switch m.Intn(8) {
		case 0:
			lines = append(lines, pick(m.Rand, []string{"no line\n", "cn: \xff\n", "cn:< x\n", "cn:: A\n", "a\rb\n", "dn: o=x\n", ": x\n"}))
		case 1:
			lines[0] = pick(m.Rand, []string{"dn: cn\n", "dn: cn=a,\n", "dn: cn=a\\\n", "dn:: Y249/w==\n", "dn:\n", "dn: o=nowhere\n", "cn: a\n", "dn:< x\n", "dn: cn=a,cn=b,o=nowhere\n"})
		case 2:
			lines = lines[:1]
		case 3:
			lines[1] = pick(m.Rand, []string{"changetype: add\n", "CONTROL: 1.2\n"})
		case 4:
			lines[0] = m.line("dn", m.spelt(pick(m.Rand, paths)))
		case 5:
			lines = nil
		case 6:
			records = slices.Insert(records, m.Intn(len(records)), lines)
			continue
		case 7:
			other := m.Intn(len(records))
			lines, records[other] = records[other], lines
		}
		records[at] = lines
	}
	return snapshotOf(records)
}

func (m maker) filter(depth int) api.Filter {
	one := func(op api.FilterOp, desc, value string) api.Filter {
		return api.Filter{{Depth: 1, Op: op, Desc: desc, Value: value}}
	}
	items := []api.Filter{
		one(api.Present, "objectClass", ""), one(api.Present, "cn", ""), one(api.Present, "foo", ""), one(api.Equality, "NAME", "ann  LEE"), one(api.Equality, "sn", "B"), one(api.Approx, "mail", "ANN@x"),
		one(api.AtLeast, "uidNumber", "7"), one(api.AtMost, "uidNumber", "6"), one(api.Equality, "uidNumber", "x"), {{Depth: 1, Op: api.Substrings, Desc: "name", Parts: api.Pattern{Any: []string{"n", "e"}}}},
		{{Depth: 1, Op: api.Extensible, Rule: "caseIgnoreMatch", Value: "1", DNAttrs: true}}, one(api.And, "", ""), one(api.Or, "", ""),
	}
	op := api.FilterOp(m.Intn(3))
	if depth == 1 || m.Intn(3) == 0 {
		return pick(m.Rand, items)
	}
	out, kids := one(op, "", ""), 1
	if op != api.Not {
		kids = m.Intn(4)
	}
	for range kids {
		for _, n := range m.filter(depth - 1) {
			n.Depth++
			out = append(out, n)
		}
	}
	return out
}

// search is one that can be written.
func (m maker) search(paths []path) api.Search {
	p := slices.Clone(pick(m.Rand, paths))
	switch m.Intn(6) {
	case 0:
		p = append(p, m.Intn(len(spellings())))
	case 1:
		p = p[:m.Intn(len(p)+1)]
	}
	q := api.Search{Base: m.spelt(p), Scope: api.Scope(m.Intn(3)), Deref: m.Intn(4), SizeLimit: pick(m.Rand, []int{0, 0, 0, 1, 2, 5, api.MaxID}), TimeLimit: m.Intn(3), TypesOnly: m.Intn(4) == 0, Filter: m.filter(1 + m.Intn(3))}
	if m.Intn(8) == 0 {
		q.Base = pick(m.Rand, []string{"x", "cn", ",", "o=nowhere", "cn=a\\"})
	}
	for range m.Intn(3) {
		q.Attributes = append(q.Attributes, pick(m.Rand, []string{"*", "+", "1.1", "cn", "NAME", "c n", "", "mail"}))
	}
	return q
}

func (m maker) controls() []api.Control {
	var out []api.Control
	for range max(0, m.Intn(8)-5) {
		out = append(out, api.Control{OID: "1.2", Critical: m.Intn(2) == 0, Value: "v", HasValue: true})
	}
	return out
}

// request is one of any kind that can be written; more often than others a search, and rarely an unbind.
func (m maker) request(paths []path) api.Request {
	kind := pick(m.Rand, []api.Kind{api.KindSearch, api.KindSearch, api.KindSearch, api.Kind(m.Intn(10)), api.Kind(m.Intn(10))})
	if kind == api.KindUnbind && m.Intn(3) > 0 {
		kind = api.KindAbandon
	}
	r := api.Request{ID: 1 + m.Intn(300), Kind: kind, Controls: m.controls()}
	switch kind {
	case api.KindBind:
		r.Bind = pick(m.Rand, binds())
	case api.KindSearch:
		r.Search = m.search(paths)
	case api.KindModify:
		r.Name, r.Changes = m.spelt(pick(m.Rand, paths)), []api.Change{{Kind: m.Intn(3), Desc: "cn", Values: []string{"a", "\xff"}}}
	case api.KindAdd:
		r.Name, r.Attributes = "no name", []api.Attr{{Desc: "cn", Values: []string{"a"}}}
	case api.KindDelete:
		r.Name = m.spelt(pick(m.Rand, paths))
	case api.KindRename:
		r.Name, r.NewRDN, r.DeleteOld, r.NewSuperior, r.HasNewSuperior = "o=x", "o=y", true, "", true
	case api.KindCompare:
		r.Name, r.Desc, r.Value = "o=x", "o", "\xff"
	case api.KindAbandon:
		r.Abandon = m.Intn(300)
	case api.KindExtended:
		r.Name, r.Value, r.HasValue = "1.2.3", "v", true
	}
	return r
}

// binds are of all forms that are answered apart.
func binds() []api.Bind {
	return []api.Bind{
		{Version: 3}, {Version: 2}, {Version: 127, Name: "o=x", Password: "p"}, {Version: 3, Method: api.MethodSASL, Mechanism: "EXTERNAL"},
		{Version: 3, Method: api.MethodSASL, Name: "o=x", Credentials: "\xff", HasCredentials: true}, {Version: 3, Password: "p"}, {Version: 3, Name: "o=x", Password: "p"}, {Version: 3, Name: "no name"},
	}
}

// unwritable spoils a request so that it can't be written.
func unwritable(m maker, r api.Request) api.Request {
	switch m.Intn(6) {
	case 0:
		r.ID = pick(m.Rand, []int{0, -1, api.MaxID + 1})
	case 1:
		r.Kind = pick(m.Rand, []api.Kind{-1, 10, 99})
	case 2:
		r.Controls = append(r.Controls, api.Control{OID: "\xff"})
	case 3:
		r.Controls = append(r.Controls, api.Control{OID: "1.2", Value: "v"})
	case 4:
		r.Bind.Credentials += "not there"
		r.Bind.HasCredentials = false
	case 5:
		r.Search.Filter = append(slices.Clone(r.Search.Filter), api.FilterNode{Depth: 9})
	}
	return r
}

// stream is some messages, most of them requests, with headers of all forms, and something behind them: nothing, a part of a message, what is no message.
func (m maker) stream(t testing.TB, paths []path) string {
	var out strings.Builder
	for range m.Intn(7) {
		message := sent(t, m.request(paths))
		if m.Intn(3) == 0 {
			message = lengthened(message, m.Intn(5))
		}
		if m.Intn(15) == 0 {
			message = pick(m.Rand, noMessages())
		}
		if m.Intn(25) == 0 {
			message = pick(m.Rand, noHeaders())
		}
		out.WriteString(message)
	}
	switch m.Intn(4) {
	case 0:
		last := sent(t, m.request(paths))
		out.WriteString(last[:m.Intn(len(last))])
	case 1:
		out.WriteString(pick(m.Rand, noHeaders()) + hello)
	case 2:
		out.WriteString(pick(m.Rand, noMessages()) + hello)
	}
	return out.String()
}

// cuts are a stream in chunks, empty ones among them.
func (m maker) cuts(stream string) []string {
	longest := 1 + m.Intn(60)
	var chunks []string
	for stream != "" {
		n := min(m.Intn(longest+1), len(stream))
		chunks = append(chunks, stream[:n])
		stream = stream[n:]
	}
	return chunks
}

// What is made is what it is said to be.
func TestMade(t *testing.T) {
	m := newMaker(170)
	for range 300 {
		paths := m.paths(m.Intn(10))
		if _, fault := slowOpen(m.snapshot(paths)); fault != (api.Fault{}) {
			t.Fatalf("a snapshot is refused: %v", fault)
		}
		r := m.request(paths)
		if back, err := msg.DecodeRequest(sent(t, r)); err != api.OK || told(back) != told(r) {
			t.Fatalf("%s comes back as %s", told(r), told(back))
		}
		if bad := unwritable(m, r); told(bad) != told(r) {
			if _, err := msg.EncodeRequest(bad); err != api.ErrCraft {
				t.Fatalf("%s can be written", told(bad))
			}
		}
		for further := range 5 {
			if back, err := msg.DecodeRequest(lengthened(sent(t, r), further)); err != api.OK || told(back) != told(r) {
				t.Fatalf("%s, with %d further length bytes, comes back as %s", told(r), further, told(back))
			}
		}
	}
	for _, message := range noMessages() {
		if _, err := msg.DecodeRequest(message); err != api.ErrMessage {
			t.Errorf("%x is a request", message)
		}
	}
}
