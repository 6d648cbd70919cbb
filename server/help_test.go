package server

import (
	"encoding/base64"
	"fmt"
	"reflect"
	"slices"
	"strings"
	"testing"

	"roster/api"
	"roster/dit"
	"roster/dn"
	"roster/entry"
	"roster/frame"
	"roster/ldif"
	"roster/msg"
	"roster/search"
)

// chapter is the chapter's snapshot S, ten that of the ten examples of the whole.
const (
	chapter = "version: 1\n\ndn: dc=x\nobjectClass: domain\ndc: x\n\ndn: cn=A B,dc=x\ncn: A B\nmail: a@x\n"
	ten     = "version: 1\n\n" +
		"dn: dc=x\nobjectClass: domain\ndc: x\n\n" +
		"dn: ou=People,dc=x\nobjectClass: organizationalUnit\ndescription: all of them\n\n" +
		"dn: cn=Ann Lee,ou=People,dc=x\nobjectClass: person\nsn: Lee\nmail: ann@x\nuidNumber: 7\n\n" +
		"dn: cn=Bo,ou=People,dc=x\nobjectClass: person\nsn: Lee\nmail;lang-en: BO@x\nuidNumber: 12\n"
)

// Messages, as the document tells their bytes.
const (
	hello   = "\x30\x0c\x02\x01\x01\x60\x07\x02\x01\x03\x04\x00\x80\x00" // a bind, id 1
	welcome = "\x30\x0c\x02\x01\x01\x61\x07\x0a\x01\x00\x04\x00\x04\x00"
	goodbye = "\x30\x05\x02\x01\x02\x42\x00" // an unbind, id 2
	notice  = "\x30\x3f\x02\x01\x00\x78\x3a\x0a\x01\x02\x04\x00\x04\x1bno message of this protocol\x8a\x161.3.6.1.4.1.1466.20036"

	// a search, id 2: the base dc=x, the whole subtree, no limits, values too, (cn=*), no attributes named
	find = "\x30\x20\x02\x01\x02\x63\x1b\x04\x04dc=x\x0a\x01\x02\x0a\x01\x00\x02\x01\x00\x02\x01\x00\x01\x01\x00\x87\x02cn\x30\x00"
	// what it is answered over the chapter's snapshot
	found = "\x30\x30\x02\x01\x02\x64\x2b\x04\x0bcn=A B,dc=x\x30\x1c\x30\x0b\x04\x02cn\x31\x05\x04\x03A B\x30\x0d\x04\x04mail\x31\x05\x04\x03a@x" +
		"\x30\x0c\x02\x01\x02\x65\x07\x0a\x01\x00\x04\x00\x04\x00"

	remove  = "\x30\x09\x02\x01\x05\x4a\x04dc=x" // a delete, id 5
	removed = "\x30\x15\x02\x01\x05\x6b\x10\x0a\x01\x35\x04\x00\x04\x09read only"
	abandon = "\x30\x06\x02\x01\x07\x50\x01\x05" // id 7, of the id 5
)

// noMessages are whole messages for the framer that are no requests.
func noMessages() []string {
	return []string{
		"\x30\x00", "\x30\x05\x02\x01\x00\x42\x00", "\x30\x06\x02\x02\x00\x03\x42\x00", "\x30\x07\x02\x01\x03\x42\x00\x05\x00", "\x30\x06\x02\x01\x03\x42\x01\x00",
		welcome, notice, "\x30\x08\x02\x01\x05\x4a\x03o=\xff", "\x30\x0c\x02\x01\x01\x60\x07\x02\x01\x00\x04\x00\x80\x00", "\x30\x05\x02\x01\x03\x42\x80", "\x30\x81\x01\x02", "\x30\x05\x02\x01\x03\x99\x00",
	}
}

// noHeaders are bytes that the framer refuses with their last one.
func noHeaders() []string {
	return []string{"\x31", "\x00", "\x30\x80", "\x30\x85", "\x30\xff", "\x30\x83\x0f\xff\xfc", "\x30\x84\x00\x0f\xff\xfb", "\x30\x84\xff\xff\xff\xff", "\x30\x83\xff\xff\xff"}
}

func open(t testing.TB, snapshot string) *Server {
	t.Helper()
	s, fault := Open(snapshot)
	if s == nil || fault != (api.Fault{}) {
		t.Fatalf("Open(%q): %v", snapshot, fault)
	}
	return s
}

// sent is the text of a request.
func sent(t testing.TB, r api.Request) string {
	t.Helper()
	text, err := msg.EncodeRequest(r)
	if err != api.OK {
		t.Fatalf("%s can't be written: %d", told(r), err)
	}
	return text
}

// lengthened is a message with so many further length bytes, if its length can be told in them.
func lengthened(message string, further int) string {
	body := message[2:]
	if message[1] > 0x80 {
		body = body[message[1]-0x80:]
	}
	n := len(body)
	if further == 0 && n < 0x80 {
		return "\x30" + string([]byte{byte(n)}) + body
	}
	if further < 4 && n >= 1<<(8*further) {
		return message
	}
	length := []byte{byte(n >> 24), byte(n >> 16), byte(n >> 8), byte(n)}[4-further:]
	return "\x30" + string([]byte{0x80 + byte(further)}) + string(length) + body
}

// told is a value as a text: what has another text is another value, but that nil and empty lists are the same.
func told(v any) string {
	var out strings.Builder
	tell(&out, reflect.ValueOf(v))
	return out.String()
}

func tell(out *strings.Builder, v reflect.Value) {
	switch v.Kind() {
	case reflect.Struct:
		out.WriteString("{")
		for i := range v.NumField() {
			if f := v.Field(i); !f.IsZero() && (f.Kind() != reflect.Slice || f.Len() > 0) {
				out.WriteString(v.Type().Field(i).Name + ":")
				tell(out, f)
				out.WriteString(" ")
			}
		}
		out.WriteString("}")
	case reflect.Slice:
		out.WriteString("[")
		for i := range v.Len() {
			tell(out, v.Index(i))
			out.WriteString(" ")
		}
		out.WriteString("]")
	case reflect.String:
		fmt.Fprintf(out, "%q", v.String())
	default:
		fmt.Fprint(out, v.Interface())
	}
}

// The document told a second time.

// slowOpen is point 1 of what all layers agree on: the entries, or the first fault of the grammar, the names, the tree.
func slowOpen(snapshot string) ([]api.Entry, api.Fault) {
	records, err, line := ldif.Load(snapshot)
	if err != api.OK {
		return nil, api.Fault{Err: err, Line: line}
	}
	var keys [][]string
	for _, r := range records {
		key, bad := dn.KeyOf(r.Name)
		if bad != nil {
			return nil, api.Fault{Err: 80, Line: r.Line}
		}
		keys = append(keys, key)
	}
	for place, key := range keys {
		ahead := keys[:place]
		if has(ahead, key) {
			return nil, api.Fault{Err: 90, Line: records[place].Line}
		}
		if place > 0 && (len(key) == 0 || !has(ahead, key[:len(key)-1])) {
			return nil, api.Fault{Err: 91, Line: records[place].Line}
		}
	}
	var entries []api.Entry
	for _, r := range records {
		e, _ := entry.Make(r)
		entries = append(entries, e)
	}
	slices.SortFunc(entries, func(a, b api.Entry) int { return slices.Compare(a.Key, b.Key) })
	return entries, api.Fault{}
}

func has(keys [][]string, key []string) bool {
	return slices.ContainsFunc(keys, func(k []string) bool { return slices.Equal(k, key) })
}

// slowRender writes entries that are in canonical order.
func slowRender(entries []api.Entry) string {
	out := slowLine("version", "1")
	for _, e := range entries {
		out += "\n" + slowLine("dn", e.Name)
		for _, a := range e.Attrs {
			for _, value := range a.Values {
				out += slowLine(a.Desc, value)
			}
		}
	}
	return out
}

// slowLine is a line of a snapshot, folded to 76 bytes.
func slowLine(desc, value string) string {
	line := desc + ": " + value
	if value == "" {
		line = desc + ":"
	} else if !plain(value) {
		line = desc + ":: " + base64.StdEncoding.EncodeToString([]byte(value))
	}
	out := ""
	for width := 76; len(line) > width; width = 75 {
		out, line = out+line[:width]+"\n ", line[width:]
	}
	return out + line + "\n"
}

// plain tells whether a value stands in a rendered snapshot as it is.
func plain(value string) bool {
	odd := func(r rune) bool { return r == 0 || r == 10 || r == 13 || r > 127 }
	return !strings.ContainsFunc(value, odd) && !strings.ContainsAny(value[:1], " :<") && !strings.HasSuffix(value, " ")
}

// world is a snapshot's server, and beside it what the document says of it.
type world struct {
	server  *Server
	entries []api.Entry // in canonical order
	store   *search.Store
	known   map[string]reaction // by a message's text
}

// reaction is what a message brings about.
type reaction struct {
	answered       string
	served, closed bool
}

func newWorld(t testing.TB, snapshot string) world {
	t.Helper()
	entries, fault := slowOpen(snapshot)
	if fault != (api.Fault{}) {
		t.Fatalf("the snapshot %q is refused: %v", snapshot, fault)
	}
	tree, err, place := dit.Build(entries)
	if err != api.OK {
		t.Fatalf("dit.Build: %d, at %d", err, place)
	}
	return world{open(t, snapshot), entries, search.New(tree), map[string]reaction{}}
}

// slowAnswer is P17.3, by a look at every entry.
func (w world) slowAnswer(r api.Request) ([]api.Reply, bool) {
	if _, err := msg.EncodeRequest(r); err != api.OK {
		return []api.Reply{{Kind: 8, Result: api.Result{Code: 2, Text: "no message of this protocol"}, OID: "1.3.6.1.4.1.1466.20036", HasOID: true}}, true
	}
	if reply, ok := msg.Refusal(r); ok {
		return []api.Reply{reply}, false
	}
	switch r.Kind {
	case api.KindUnbind:
		return nil, true
	case api.KindAbandon:
		return nil, false
	}
	list, result := w.store.Scan(r.Search)
	var replies []api.Reply
	for _, f := range list {
		replies = append(replies, api.Reply{ID: r.ID, Kind: 1, Name: f.Name, Attributes: f.Attributes})
	}
	return append(replies, api.Reply{ID: r.ID, Kind: 2, Result: result}), false
}

// reactionTo is what one message brings about.
func (w world) reactionTo(message string) reaction {
	if out, asked := w.known[message]; asked {
		return out
	}
	out := reaction{answered: notice, closed: true}
	if r, err := msg.DecodeRequest(message); err == api.OK {
		replies, ends := w.slowAnswer(r)
		out = reaction{served: true, closed: ends}
		for _, reply := range replies {
			text, _ := msg.EncodeReply(reply)
			out.answered += text
		}
	}
	w.known[message] = out
	return out
}

// state is all that is seen of a session: what it has answered so far, and what its calls tell.
type state struct {
	answered     string
	closed       bool
	held, served int
}

func (s state) String() string {
	return fmt.Sprintf("%.400x, Closed %v, Held %d, Served %d", s.answered, s.closed, s.held, s.served)
}

// behind is the state of a session to which this stream has come, in whatever chunks.
func (w world) behind(stream string) state {
	var out state
	cut := frame.Split(api.MaxMessage, stream)
	for _, message := range cut.Messages {
		one := w.reactionTo(message)
		out.answered += one.answered
		if one.served {
			out.served++
		}
		if one.closed {
			out.closed = true
			return out
		}
	}
	if cut.Err != api.OK {
		out.answered, out.closed = out.answered+notice, true
		return out
	}
	out.held = len(stream) - cut.At
	return out
}

// client is one that feeds a session, and holds it behind each chunk against the stream so far.
type client struct {
	world
	session          *Session
	stream, answered string
}

func (w world) connect() *client { return &client{world: w, session: w.server.Connect()} }

// feed writes, behind the call, over the chunk and over all room of the answer.
func (c *client) feed(t testing.TB, chunk string) {
	t.Helper()
	handed := []byte(chunk + "spare room")[:len(chunk)]
	got := c.session.Feed(handed)
	if all := string(handed[:len(chunk)+10]); all != chunk+"spare room" {
		t.Fatalf("Feed changed its chunk %x to %x", chunk, all)
	}
	c.stream, c.answered = c.stream+chunk, c.answered+string(got)
	spoilBytes(handed)
	spoilBytes(got)
	now := state{c.answered, c.session.Closed(), c.session.Held(), c.session.Served()}
	if want := c.behind(c.stream); now != want {
		t.Fatalf("behind %.200x: %s; want %s", c.stream, now, want)
	}
}

func spoilBytes(b []byte) {
	for i := range b[:cap(b)] {
		b[:cap(b)][i] ^= 0x55
	}
}

// play feeds chunks to a new session.
func (w world) play(t testing.TB, chunks ...string) {
	t.Helper()
	c := w.connect()
	for _, chunk := range chunks {
		c.feed(t, chunk)
	}
}

// holdFed holds a session's answer to a chunk, as bytes that are written out in the test.
func holdFed(t testing.TB, c *Session, chunk, want string) {
	t.Helper()
	if got := string(c.Feed([]byte(chunk))); got != want {
		t.Fatalf("Feed(%.100x) = %.200x, want %.200x", chunk, got, want)
	}
}

func holdState(t testing.TB, c *Session, closed bool, held, served int) {
	t.Helper()
	if c.Closed() != closed || c.Held() != held || c.Served() != served {
		t.Fatalf("Closed %v, Held %d, Served %d; want %v, %d, %d", c.Closed(), c.Held(), c.Served(), closed, held, served)
	}
}

func holdAnswer(t testing.TB, s *Server, r api.Request, ends bool, want ...api.Reply) {
	t.Helper()
	if replies, end := s.Answer(r); told(replies) != told(want) || end != ends {
		t.Fatalf("Answer(%s) = %s, %v; want %s, %v", told(r), told(replies), end, told(want), ends)
	}
}
