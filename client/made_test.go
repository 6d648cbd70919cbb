package client

import (
	"encoding/base64"
	"math/rand"
	"slices"
	"strings"

	"roster/api"
	"roster/url"
)

// maker makes lines, replies, streams and snapshots by chance.
type maker struct{ *rand.Rand }

func newMaker(seed int64) maker { return maker{rand.New(rand.NewSource(seed))} }

func pick[E any](m maker, from ...E) E { return from[m.Intn(len(from))] }

// someBytes is a text of any bytes.
func (m maker) someBytes(longest int) string {
	b := make([]byte, m.Intn(longest+1))
	m.Read(b)
	return string(b)
}

// anyNumber is one of any size, below 0 too.
func (m maker) anyNumber() int { return int(m.Uint64()>>m.Intn(64)) * (1 - 2*m.Intn(2)) }

// Lines.

// argument is one of its kind (as slowRows tell them), nearly always a right one.
func (m maker) argument(kind byte) string {
	if m.Intn(25) == 0 {
		kind = pick(m, []byte("tunw")...)
	}
	switch kind {
	case 'u':
		return m.url()
	case 'n':
		return pick(m, "0", "1", "2", "3", "2147483647", "10", "2147483648", "01")
	case 'w':
		return pick(m, "types", "TYPES", "Types")
	}
	return pick(m, "n", "dc=x", "cn=a%20b,dc=x", "%C3%a9", "%25", "cn", "v", "1.2.3", "cn=Bo,ou=People,dc=x", "%", "%ff")
}

func (m maker) url() string {
	return "ldap://" + pick(m, "", "", "h", "h:389") + "/" + pick(m, "dc=x", "dc=x", "DC=X", "ou=people,dc=x", "cn=bo,ou=People,dc=x", "cn=C,ou=People,dc=x", "", "o=%20", "x") + "?" + pick(m, "", "cn", "*,%2b", "1.1", "name", "c n") +
		"?" + pick(m, "", "sub", "sub", "one", "BASE", "two") + "?" + pick(m, "", "(&)", "(sn=LEE)", "(!(mail=*))", "(uidNumber>=8)", "(cn=*%20*)", "(cn", "(name=*e*)") + pick(m, "", "", "", "?x=1", "?!x")
}

// line is a command, nearly always one that is taken.
func (m maker) line() string {
	word := pick(m, words...)
	row := slowRows[word]
	count := row.least + m.Intn(len(row.kinds)-row.least+1)
	if m.Intn(12) == 0 {
		count = m.Intn(5)
	}
	space := pick(m, " ", " ", "  ")
	line := pick(m, "", "", "", "", "", "", " ", "   ", "\t", "#") + pick(m, word, word, strings.ToUpper(word))
	for n := range count {
		kind := byte('t')
		if n < len(row.kinds) {
			kind = row.kinds[n]
		}
		line += space + m.argument(kind)
	}
	return line + pick(m, "", "", " ")
}

// damaged is a text with a few bytes changed, left out or put in.
func (m maker) damaged(s string) string {
	for range 1 + m.Intn(2) {
		at := m.Intn(len(s) + 1)
		end := min(len(s), at+m.Intn(3))
		s = s[:at] + pick(m, "", " ", "%", "#", "\t", "x", "0", "?", "%2", " x", "\xff", m.someBytes(2)) + s[end:]
	}
	return s
}

// Replies.

func (m maker) value() string {
	return pick(m, "", "v", " v", "v ", ":v", "<v", "a:b", "\xc3\xa9", "\x00", "a\nb", "a\rb", "\x7f", m.someBytes(4))
}

// reply is one of any texts, numbers and lists.
func (m maker) reply() api.Reply {
	r := api.Reply{ID: m.anyNumber(), Kind: api.ReplyKind(m.Intn(11) - 1), Result: api.Result{Code: api.Code(m.anyNumber()), Matched: m.value(), Text: m.value()}, Name: m.value(), OID: m.value(), HasOID: m.Intn(2) == 0}
	for range m.Intn(3) {
		a := api.Attr{Desc: pick(m, "cn", "sn;x", m.value()), Canon: m.value()}
		for range m.Intn(4) {
			a.Values = append(a.Values, m.value())
		}
		r.Attributes = append(r.Attributes, a)
		r.Controls = append(r.Controls, api.Control{OID: m.value(), Critical: m.Intn(2) == 0, Value: m.value(), HasValue: m.Intn(2) == 0})
	}
	return r
}

// sendable is a reply to one of so many requests that can be written, most often of the kind that a talk's request with its id has.
func (m maker) sendable(x *talk) string {
	id := 1 + m.Intn(len(x.kinds)+1)
	kind := api.ReplyKind(m.Intn(9))
	if id <= len(x.kinds) && m.Intn(12) > 0 {
		kind = pick(m, ending(x.kinds[id-1]), api.ReplyEntry)
		if x.kinds[id-1] != api.KindSearch {
			kind = ending(x.kinds[id-1])
		}
	}
	if kind == api.ReplyEntry {
		return found(id, pick(m, "", "dc=x", "cn=\xc3\xa9"))
	}
	r := api.Reply{ID: id, Kind: kind, Result: api.Result{Code: api.Code(m.Intn(128)), Matched: pick(m, "", "dc=x"), Text: pick(m, "", "\xc3\xa9")}}
	if kind == api.ReplyExtended && m.Intn(2) == 0 {
		r.OID, r.HasOID = pick(m, "", "1.2"), true
	}
	for range m.Intn(2) * m.Intn(3) {
		r.Controls = append(r.Controls, api.Control{OID: pick(m, "", "1.2"), Critical: m.Intn(2) == 0})
	}
	return encoded(r)
}

// ending is the kind that answers a kind of requests: chapter 13's table once more. Of those that nothing answers it is any.
func ending(kind api.Kind) api.ReplyKind {
	return []api.ReplyKind{0, 3, 2, 3, 4, 5, 6, 7, 8, 8}[kind]
}

// lengthened is a short message with so many further length bytes.
func lengthened(message string, further int) string {
	if further == 0 || message[1] >= 0x80 {
		return message
	}
	return "\x30" + string([]byte{0x80 + byte(further)}) + "\x00\x00\x00"[:further-1] + message[1:]
}

// stream is some replies to what a talk has sent, and something behind them: nothing, a part of one, what is none.
func (m maker) stream(x *talk, most int) string {
	out := ""
	for range m.Intn(most + 1) {
		message := m.sendable(x)
		if m.Intn(3) == 0 {
			message = lengthened(message, m.Intn(5))
		}
		out += message
	}
	switch m.Intn(10) {
	case 0:
		out += pick(m, noReplies()...) + welcome
	case 1:
		out += pick(m, "\x31", "\x30\x80", "\x30\x85") + welcome
	case 2:
		out += notice + pick(m, "", welcome, "\x31", "\x30\x00")
	case 3, 4:
		last := m.sendable(x)
		out += last[:m.Intn(len(last))]
	}
	return out
}

// cuts are a stream in chunks, empty ones among them.
func (m maker) cuts(stream string) []string {
	longest := 1 + m.Intn(60)
	var chunks []string
	for stream != "" {
		n := min(m.Intn(longest+1), len(stream))
		chunks, stream = append(chunks, stream[:n]), stream[n:]
	}
	return chunks
}

// Snapshots.

// parts are of names, no two the same.
func parts() []string {
	return []string{"cn=Ann Lee", "cn=1+sn=b", "cn=1!", "ou=a\\,b", "ou=caf\\c3\\a9", "OU=Caf\xc3\xa9 x", "uid=x?%", "l=", "x-odd=1", "dn=x", "changetype=add", "description=" + strings.Repeat("long ", 30) + ".", "o=\\20#\\+ \\\"", "cn=#0c0141", "2.5.4.3=\\#"}
}

func pairs() []api.Pair {
	return []api.Pair{
		{Desc: "changetype", Value: "add"}, {Desc: "control", Value: "1.2"},
		{Desc: "objectClass", Value: "Person"}, {Desc: "OBJECTCLASS", Value: "person"}, {Desc: "commonName", Value: " ann lee"}, {Desc: "cn", Value: "ANN LEE "}, {Desc: "cn;lang-de", Value: "1"}, {Desc: "sn", Value: "b"}, {Desc: "SN;x;A", Value: "B"}, {Desc: "sn;a;X", Value: "b"},
		{Desc: "mail", Value: "caf\xc3\xa9"}, {Desc: "userPassword", Value: "\x00\xff\r\n"}, {Desc: "userPassword", Value: ""}, {Desc: "uidNumber", Value: "7"}, {Desc: "uidNumber", Value: "007"}, {Desc: "x-odd", Value: "1 "}, {Desc: "X-Odd", Value: ":1"},
		{Desc: "x-odd", Value: "<1"}, {Desc: "x-odd", Value: "# 1"}, {Desc: "version", Value: "1"}, {Desc: "description", Value: strings.Repeat("0123456789", 20)}, {Desc: "createTimestamp", Value: "2024010112Z"}, {Desc: "modifiersName", Value: "no name"}, {Desc: "9.9", Value: "x"},
	}
}

// record is one with a pair at least, the first none of those that a change has there.
func (m maker) record(name string) string {
	value := func(s string) string { return ":: " + base64.StdEncoding.EncodeToString([]byte(s)) + "\n" }
	out := "\ndn" + value(name)
	for n := range 1 + m.Intn(6) {
		pair := pick(m, pairs()[2:]...)
		if n > 0 {
			pair = pick(m, pairs()...)
		}
		out += pair.Desc + value(pair.Value)
	}
	return out
}

// snapshot is one that is accepted, and the name of its root.
func (m maker) snapshot(count int) (string, string) {
	root := pick(m, "", "dc=x", "DC = X , o=y", "cn=a\\,b+sn=?%/,o=\xc3\xa9 # x", "x-odd=1")
	names := []string{root}
	out := "version: 1\n" + m.record(root)
	for range count {
		child := pick(m, parts()...)
		if parent := pick(m, names...); parent != "" {
			child += pick(m, ",", " , ") + parent
		}
		if !slices.ContainsFunc(names, func(name string) bool { return strings.ReplaceAll(name, " ", "") == strings.ReplaceAll(child, " ", "") }) {
			names, out = append(names, child), out+m.record(child)
		}
	}
	return out, root
}

// wholeTree is the line that asks for all of a root's subtree.
func wholeTree(root string) string { return "search ldap:///" + url.Escape(root) + "?*,+?sub?(&)" }
