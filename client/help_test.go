package client

import (
	"encoding/base64"
	"fmt"
	"regexp"
	"slices"
	"strconv"
	"strings"
	"testing"

	"roster/api"
	"roster/frame"
	"roster/msg"
	"roster/server"
	"roster/url"
)

// small is the chapter's snapshot, people that of the ten examples of the whole.
const (
	small  = "version: 1\n\ndn: dc=x\ndc: x\n"
	people = "version: 1\n\n" +
		"dn: dc=x\nobjectClass: domain\ndc: x\n\n" +
		"dn: ou=People,dc=x\nobjectClass: organizationalUnit\ndescription: all of them\n\n" +
		"dn: cn=Ann Lee,ou=People,dc=x\nobjectClass: person\nsn: Lee\nmail: ann@x\nuidNumber: 7\n\n" +
		"dn: cn=Bo,ou=People,dc=x\nobjectClass: person\nsn: Lee\nmail;lang-en: BO@x\nuidNumber: 12\n"
)

// words are all commands.
var words = []string{"bind", "unbind", "search", "modify", "add", "delete", "rename", "compare", "abandon", "extended"}

// told is a value as a text: what has another text is another value, but that nil and empty lists are the same.
func told(v any) string { return strings.ReplaceAll(fmt.Sprintf("%#v", v), "(nil)", "{}") }

// encoded is the text of a reply.
func encoded(r api.Reply) string {
	s, err := msg.EncodeReply(r)
	if err != api.OK {
		panic(fmt.Sprintf("%s can't be written: %d", told(r), err))
	}
	return s
}

// end is a reply with a result.
func end(id int, kind api.ReplyKind) string { return encoded(api.Reply{ID: id, Kind: kind}) }

// found is an entry that a search is sent.
func found(id int, name string) string {
	return encoded(api.Reply{ID: id, Kind: api.ReplyEntry, Name: name, Attributes: []api.Attr{{Desc: "cn", Values: []string{"a", " b"}}}})
}

const (
	welcome = "\x30\x0c\x02\x01\x01\x61\x07\x0a\x01\x00\x04\x00\x04\x00" // to a bind, id 1
	notice  = "\x30\x25\x02\x01\x00\x78\x20\x0a\x01\x02\x04\x00\x04\x01x\x8a\x161.3.6.1.4.1.1466.20036"
	noticed = "# 0 extended 2\ntext: x\noid: 1.3.6.1.4.1.1466.20036\n"
)

// noReplies are whole messages for the framer that are no replies.
func noReplies() []string {
	return []string{
		"\x30\x00", "\x30\x0c\x02\x01\x00\x61\x07\x0a\x01\x00\x04\x00\x04\x00", "\x30\x0c\x02\x01\x01\x60\x07\x02\x01\x03\x04\x00\x80\x00", "\x30\x05\x02\x01\x03\x42\x00",
		"\x30\x0e\x02\x01\x01\x61\x07\x0a\x01\x00\x04\x00\x04\x00\x05\x00", "\x30\x0d\x02\x01\x01\x61\x08\x0a\x01\x00\x04\x01\xff\x04\x00", "\x30\x81\x01\x02", "\x30\x0c\x02\x01\xff\x61\x07\x0a\x01\x00\x04\x00\x04\x00",
	}
}

// noHeaders are bytes that the framer refuses with their last one.
func noHeaders() map[string]api.Errno {
	return map[string]api.Errno{"\x31": api.ErrFirst, "\x00": api.ErrFirst, "\x30\x80": api.ErrFrameIndefinite, "\x30\x85": api.ErrFrameLength, "\x30\xff": api.ErrFrameLength}
}

// The chapter told a second time.

var (
	formNothing = regexp.MustCompile(`^[\t-\r ]*(?:#|\z)`)
	formField   = regexp.MustCompile(`[^ ]+`)
	formNumber  = regexp.MustCompile(`^(?:0|[1-9][0-9]{0,9})\z`)
	formTypes   = regexp.MustCompile(`^[tT][yY][pP][eE][sS]\z`)
	formLine    = regexp.MustCompile(`[^\n]*\n|[^\n]+\z`)
	formPlain   = regexp.MustCompile(`^(?:[\x01-\x09\x0b\x0c\x0e-\x1f!-9;=-\x7f](?:[\x01-\x09\x0b\x0c\x0e-\x7f]*[\x01-\x09\x0b\x0c\x0e-\x1f!-\x7f])?)?\z`)
)

// slowRows tell what a word's arguments are (t a text, u a URL, n a number, w the word types), and how many must be there.
var slowRows = map[string]struct {
	kinds string
	least int
}{
	"bind": {"tt", 0}, "unbind": {"", 0}, "search": {"unw", 1}, "modify": {"t", 1}, "add": {"ttt", 3},
	"delete": {"t", 1}, "rename": {"tt", 2}, "compare": {"ttt", 3}, "abandon": {"n", 1}, "extended": {"tt", 1},
}

// lower folds byte by byte: strings.ToLower would turn letters beyond ASCII as well.
func lower(s string) string {
	out := []byte(s)
	for i, b := range out {
		if b >= 'A' && b <= 'Z' {
			out[i] = b + 32
		}
	}
	return string(out)
}

// slowMeant is what one argument says, of its kind.
func slowMeant(kind byte, s string) (meant string, number int, q api.Search, err api.Errno, at int) {
	switch kind {
	case 't':
		meant, err, at = url.Unescape(s)
	case 'u':
		var u api.URL
		if u, err, at = url.Parse(s); err == api.OK {
			q, err = url.Search(u)
		}
	case 'n':
		number, _ = strconv.Atoi(s)
		if !formNumber.MatchString(s) || number > 2147483647 {
			err = 191
		}
	case 'w':
		if !formTypes.MatchString(s) {
			err = 191
		}
	}
	return meant, number, q, err, at
}

// slowParse is P19.1.
func slowParse(line string) (api.Request, api.Errno, int) {
	if formNothing.MatchString(line) {
		return api.Request{}, 190, 0
	}
	places := formField.FindAllStringIndex(line, -1)
	word := lower(line[places[0][0]:places[0][1]])
	row, known := slowRows[word]
	if !known {
		return api.Request{}, 191, places[0][0]
	}
	var texts [3]string
	var q api.Search
	var limit int
	for n, p := range places[1:] {
		if n == len(row.kinds) {
			return api.Request{}, 191, p[0]
		}
		meant, number, asked, err, at := slowMeant(row.kinds[n], line[p[0]:p[1]])
		if err != 0 {
			return api.Request{}, err, p[0] + at
		}
		texts[n] = meant
		if row.kinds[n] == 'u' {
			q = asked
		}
		if row.kinds[n] == 'n' {
			limit = number
		}
	}
	if len(places)-1 < row.least {
		return api.Request{}, 191, len(line)
	}
	return slowRequest(word, len(places)-1, texts, limit, q), 0, 0
}

func slowRequest(word string, count int, texts [3]string, number int, q api.Search) api.Request {
	r := api.Request{Kind: api.Kind(slices.Index(words, word))}
	switch word {
	case "bind":
		r.Bind.Version, r.Bind.Name, r.Bind.Password = 3, texts[0], texts[1]
	case "search":
		r.Search = q
		r.Search.SizeLimit, r.Search.TypesOnly = number, count == 3
	case "abandon":
		r.Abandon = number
	case "add":
		r.Name, r.Attributes = texts[0], []api.Attr{{Desc: texts[1], Values: []string{texts[2]}}}
	case "rename":
		r.Name, r.NewRDN, r.DeleteOld = texts[0], texts[1], true
	case "compare":
		r.Name, r.Desc, r.Value = texts[0], texts[1], texts[2]
	case "extended":
		r.Name, r.Value, r.HasValue = texts[0], texts[1], count == 2
	default:
		r.Name = texts[0]
	}
	return r
}

// slowShow is P19.2.
func slowShow(r api.Reply) string {
	out := ""
	line := func(there bool, word, value string) {
		switch {
		case !there:
		case value == "":
			out += word + ":\n"
		case formPlain.MatchString(value):
			out += word + ": " + value + "\n"
		default:
			out += word + ":: " + base64.StdEncoding.EncodeToString([]byte(value)) + "\n"
		}
	}
	if r.Kind == 1 {
		out = fmt.Sprintf("# %d entry\n", r.ID)
		line(true, "dn", r.Name)
		for _, a := range r.Attributes {
			for _, value := range a.Values {
				line(true, a.Desc, value)
			}
			if a.Values == nil || len(a.Values) < 1 {
				out += "# " + a.Desc + "\n"
			}
		}
		return out + "\n"
	}
	word := "other"
	if r.Kind >= 0 && r.Kind <= 8 {
		word = []string{"bind", "", "done", "modify", "add", "delete", "rename", "compare", "extended"}[r.Kind]
	}
	out = fmt.Sprintf("# %d %s %d\n", r.ID, word, r.Result.Code)
	line(r.Result.Matched != "", "matched", r.Result.Matched)
	line(r.Result.Text != "", "text", r.Result.Text)
	line(r.HasOID, "oid", r.OID)
	for _, c := range r.Controls {
		line(true, "control", c.OID)
	}
	return out
}

// slowDialog is P19.5, without a session and without a client: what the server answers to the requests as values.
func slowDialog(snapshot, script string) (string, api.Fault) {
	s, fault := server.Open(snapshot)
	if s == nil {
		return "", fault
	}
	out, sent, over := "", 0, false
	for _, line := range formLine.FindAllString(script, -1) {
		r, err, _ := slowParse(strings.TrimSuffix(line, "\n"))
		r.ID = sent + 1
		message, bad := msg.EncodeRequest(r)
		switch {
		case over:
			out += "! 192\n"
		case err == api.ErrNothing:
		case err != api.OK:
			out += fmt.Sprintf("! %d\n", err)
		case bad != api.OK:
			out += "! 131\n"
		case len(message) > api.MaxMessage:
			sent, over = sent+1, true
			out += slowShow(msg.Notice("no message of this protocol"))
		default:
			var replies []api.Reply
			sent++
			replies, over = s.Answer(r)
			for _, reply := range replies {
				out += slowShow(reply)
			}
		}
	}
	return out, api.Fault{}
}

// What a request that was sent is.
const (
	never   = iota // an unbind, an abandon: it never waits
	waits          // its end hasn't come
	ended          // its end has come
	dropped        // it was given up
)

// talk is a client, and beside it what the document says of it.
type talk struct {
	*Client
	kinds  []api.Kind // of the requests that were sent: the first has the id 1
	states []int
	rest   string // what came of a message that isn't whole
	over   bool
}

func newTalk(t testing.TB, lines ...string) *talk {
	t.Helper()
	x := &talk{Client: New()}
	x.hold(t)
	for _, line := range lines {
		x.send(t, line)
	}
	return x
}

func (x *talk) slowSend(line string) (string, api.Errno) {
	if x.over {
		return "", 192
	}
	r, err, _ := slowParse(line)
	if err != api.OK {
		return "", err
	}
	r.ID = len(x.kinds) + 1
	message, bad := msg.EncodeRequest(r)
	if bad != api.OK {
		return "", 131
	}
	state := waits
	switch r.Kind {
	case api.KindUnbind:
		state, x.over = never, true
	case api.KindAbandon:
		state = never
		if x.stateOf(r.Abandon) == waits {
			x.states[r.Abandon-1] = dropped
		}
	}
	x.kinds, x.states = append(x.kinds, r.Kind), append(x.states, state)
	return message, api.OK
}

func (x *talk) stateOf(id int) int {
	if id < 1 || id > len(x.states) {
		return never
	}
	return x.states[id-1]
}

func (x *talk) slowReceive(chunk string) (string, api.Errno) {
	if x.over {
		return "", 192
	}
	stream, out := x.rest+chunk, ""
	cut := frame.Split(1099511627776, stream)
	x.rest = stream[cut.At:]
	for _, message := range cut.Messages {
		shown, err, over := x.slowTake(message)
		out += shown
		if over {
			x.over = true
			return out, err
		}
	}
	x.over = cut.Err != api.OK
	return out, cut.Err
}

func (x *talk) slowTake(message string) (string, api.Errno, bool) {
	r, err := msg.DecodeReply(message)
	switch state := x.stateOf(r.ID); {
	case err != api.OK:
		return "", 130, true
	case r.ID == 0:
		return slowShow(r), 0, true
	case state == dropped:
		return "", 0, false
	case state != waits:
		return "", 193, true
	}
	kind := x.kinds[r.ID-1]
	answer, _ := msg.Refusal(api.Request{Kind: kind, Controls: []api.Control{{Critical: true}}}) // every kind that is answered has one
	switch {
	case r.Kind == answer.Kind:
		x.states[r.ID-1] = ended
	case r.Kind != api.ReplyEntry || kind != api.KindSearch:
		return "", 193, true
	}
	return slowShow(r), 0, false
}

func (x *talk) slowWaiting() []int {
	var out []int
	for id := 1; id <= len(x.states) && !x.over; id++ {
		if x.stateOf(id) == waits {
			out = append(out, id)
		}
	}
	return out
}

// hold holds what is seen of the client against the document, and writes over what it tells.
func (x *talk) hold(t testing.TB) {
	t.Helper()
	for range 2 {
		ids := x.Waiting()
		if !slices.Equal(ids, x.slowWaiting()) || x.Over() != x.over {
			t.Fatalf("Waiting %v, Over %v; want %v, %v", ids, x.Over(), x.slowWaiting(), x.over)
		}
		for i := range ids[:cap(ids)] {
			ids[:cap(ids)][i] = -7
		}
	}
}

// send writes, behind the call, over all room of the answer.
func (x *talk) send(t testing.TB, line string) {
	t.Helper()
	want, number := x.slowSend(line)
	got, err := x.Send(line)
	if string(got) != want || err != number {
		t.Fatalf("Send(%.200q) = %.200x, %d; want %.200x, %d", line, got, err, want, number)
	}
	spoilBytes(got)
	x.hold(t)
}

// receive writes, behind the call, over the chunk; it answers what the call told.
func (x *talk) receive(t testing.TB, chunk string) (string, api.Errno) {
	t.Helper()
	want, number := x.slowReceive(chunk)
	handed := []byte(chunk + "spare room")[:len(chunk)]
	got, err := x.Receive(handed)
	if got != want || err != number {
		t.Fatalf("Receive(%.200x) = %.300q, %d; want %.300q, %d", chunk, got, err, want, number)
	}
	if all := string(handed[:len(chunk)+10]); all != chunk+"spare room" {
		t.Fatalf("Receive changed its chunk %.200x to %.200x", chunk, all)
	}
	spoilBytes(handed)
	if got != want {
		t.Fatalf("the text became %.300q with its chunk", got)
	}
	x.hold(t)
	return got, err
}

func spoilBytes(b []byte) {
	for i := range b[:cap(b)] {
		b[:cap(b)][i] ^= 0x55
	}
}

// holdTold holds what a chunk brings about, written out in the test.
func (x *talk) holdTold(t testing.TB, chunk, want string, number api.Errno) {
	t.Helper()
	if got, err := x.receive(t, chunk); got != want || err != number {
		t.Fatalf("Receive(%.200x) = %.300q, %d; want %.300q, %d", chunk, got, err, want, number)
	}
}

// holdSeen holds which ids wait, none when the talk is over.
func (x *talk) holdSeen(t testing.TB, over bool, ids ...int) {
	t.Helper()
	if got := x.Waiting(); !slices.Equal(got, ids) || x.Over() != over {
		t.Fatalf("Waiting %v, Over %v; want %v, %v", got, x.Over(), ids, over)
	}
}

func holdParsed(t testing.TB, line string, want api.Request) {
	t.Helper()
	if r, err, at := Parse(line); told(r) != told(want) || err != api.OK || at != 0 {
		t.Errorf("Parse(%.300q) = %s, %d, %d; want %s", line, told(r), err, at, told(want))
	}
	holdSlow(t, line)
}

func holdRefused(t testing.TB, line string, number api.Errno, place int) {
	t.Helper()
	if r, err, at := Parse(line); told(r) != told(api.Request{}) || err != number || at != place {
		t.Errorf("Parse(%.300q) = %s, %d, %d; want %d, %d", line, told(r), err, at, number, place)
	}
	holdSlow(t, line)
}

// holdSlow holds Parse against the chapter told a second time.
func holdSlow(t testing.TB, line string) {
	t.Helper()
	want, number, place := slowParse(line)
	if r, err, at := Parse(line); told(r) != told(want) || err != number || at != place {
		t.Errorf("Parse(%.300q) = %s, %d, %d; want %s, %d, %d", line, told(r), err, at, told(want), number, place)
	}
}

func holdShown(t testing.TB, r api.Reply, want string) {
	t.Helper()
	if got, slow := Show(r), slowShow(r); got != want || slow != want {
		t.Errorf("Show(%s) = %q, the second time %q; want %q", told(r), got, slow, want)
	}
}

func holdDialog(t testing.TB, snapshot, script, want string, fault api.Fault) {
	t.Helper()
	got, f := Dialog(snapshot, script)
	slow, slowFault := slowDialog(snapshot, script)
	if got != want || f != fault || slow != want || slowFault != fault {
		t.Errorf("Dialog(%.200q, %.200q) = %.500q, %v, the second time %.500q, %v; want %.500q, %v", snapshot, script, got, f, slow, slowFault, want, fault)
	}
}
