package server

import (
	"slices"
	"testing"

	"roster/api"
	"roster/filter"
	"roster/frame"
	"roster/msg"
)

// searching is a search of the whole tree beneath dc=x.
func searching(t *testing.T, text string, attributes ...string) api.Search {
	t.Helper()
	f, err, place := filter.Parse(text)
	if err != api.OK {
		t.Fatalf("%s is no filter's text: %d, %d", text, err, place)
	}
	return api.Search{Base: "dc=x", Scope: api.WholeSubtree, Filter: f, Attributes: attributes}
}

func asking(id int, q api.Search) api.Request {
	return api.Request{ID: id, Kind: api.KindSearch, Search: q}
}

func entryReply(id int, name string, attrs ...api.Attr) api.Reply {
	return api.Reply{ID: id, Kind: api.ReplyEntry, Name: name, Attributes: attrs}
}

func done(id int, code api.Code, matched string) api.Reply {
	return api.Reply{ID: id, Kind: api.ReplyDone, Result: api.Result{Code: code, Matched: matched}}
}

func given(desc string, values ...string) api.Attr { return api.Attr{Desc: desc, Values: values} }

func noticeReply() api.Reply {
	return api.Reply{Kind: api.ReplyExtended, Result: api.Result{Code: api.ProtocolError, Text: api.NoticeText}, OID: api.NoticeOID, HasOID: true}
}

// P17.3, rule 1: what can't be written is answered with the notice, whatever else it is, and ends the session.
func TestAnswerToNoRequest(t *testing.T) {
	s := open(t, chapter)
	deep := api.Filter{}
	for depth := range api.MaxFilter {
		deep = append(deep, api.FilterNode{Depth: depth + 1, Op: api.And})
	}
	q := searching(t, "(cn=*)")
	odd := func(change func(q *api.Search)) api.Request {
		other := q
		change(&other)
		return asking(1, other)
	}
	for _, r := range []api.Request{
		{}, {Kind: api.KindUnbind}, {ID: -1, Kind: api.KindAbandon}, {ID: api.MaxID + 1, Kind: api.KindUnbind}, asking(0, q),
		{ID: 1, Kind: -1}, {ID: 1, Kind: 10}, {ID: 1, Kind: api.KindUnbind, Name: "x"}, {ID: 1, Kind: api.KindAbandon, Abandon: -1}, {ID: 1, Kind: api.KindDelete, Name: "\xff"},
		{ID: 0, Kind: api.KindDelete, Name: "dc=x"}, {ID: 1, Kind: api.KindDelete, Desc: "cn"}, {ID: 1, Kind: api.KindAdd, Name: "o=x", Attributes: []api.Attr{{Desc: "o"}}},
		{ID: 1, Kind: api.KindBind}, {ID: 1, Kind: api.KindBind, Bind: api.Bind{Version: 128}}, {ID: 1, Kind: api.KindBind, Bind: api.Bind{Version: 3, Method: 2}}, {ID: 1, Kind: api.KindBind, Bind: api.Bind{Version: 3, Credentials: "c"}},
		{ID: 1, Kind: api.KindExtended, Name: "1.2", Value: "v"}, {ID: 1, Kind: api.KindUnbind, Controls: []api.Control{{OID: "\xff", Critical: true}}}, {ID: 1, Kind: api.KindDelete, Name: "dc=x", Controls: []api.Control{{OID: "1.2", Critical: true, Value: "v"}}},
		odd(func(q *api.Search) { q.Scope = 3 }), odd(func(q *api.Search) { q.Scope = -1 }), odd(func(q *api.Search) { q.Deref = 4 }), odd(func(q *api.Search) { q.SizeLimit = -1 }), odd(func(q *api.Search) { q.TimeLimit = api.MaxID + 1 }),
		odd(func(q *api.Search) { q.Filter = nil }), odd(func(q *api.Search) { q.Filter = deep }), odd(func(q *api.Search) { q.Base = "\xff" }), odd(func(q *api.Search) { q.Attributes = []string{"cn", "\xff"} }),
	} {
		holdAnswer(t, s, r, true, noticeReply())
	}
}

// P17.3, rule 2: what the table of refusals answers, with the request's id, and the session goes on.
func TestAnswerRefusal(t *testing.T) {
	s := open(t, chapter)
	critical := []api.Control{{OID: "1.1"}, {OID: "1.2", Critical: true}}
	q := searching(t, "(cn=*)")
	for _, x := range []struct {
		r    api.Request
		kind api.ReplyKind
		code api.Code
		text string
	}{
		{api.Request{Kind: api.KindBind, Bind: api.Bind{Version: 3}}, api.ReplyBind, api.Success, ""},
		{api.Request{Kind: api.KindBind, Bind: api.Bind{Version: 2, Name: "x"}}, api.ReplyBind, api.ProtocolError, "version 3 only"},
		{api.Request{Kind: api.KindBind, Bind: api.Bind{Version: 3, Method: api.MethodSASL}}, api.ReplyBind, api.AuthMethodUnknown, "simple only"},
		{api.Request{Kind: api.KindBind, Bind: api.Bind{Version: 3, Name: "x", Password: "p"}}, api.ReplyBind, api.InvalidCredentials, "anonymous only"},
		{api.Request{Kind: api.KindBind, Bind: api.Bind{Version: 3, Name: "x"}}, api.ReplyBind, api.Unwilling, "name without password"},
		{api.Request{Kind: api.KindBind, Bind: api.Bind{Version: 3}, Controls: critical}, api.ReplyBind, api.CriticalUnavailable, "critical control"},
		{api.Request{Kind: api.KindModify, Name: "dc=x"}, api.ReplyModify, api.Unwilling, "read only"},
		{api.Request{Kind: api.KindAdd, Name: "dc=y"}, api.ReplyAdd, api.Unwilling, "read only"},
		{api.Request{Kind: api.KindDelete, Name: "dc=x"}, api.ReplyDelete, api.Unwilling, "read only"},
		{api.Request{Kind: api.KindRename, Name: "dc=x"}, api.ReplyRename, api.Unwilling, "read only"},
		{api.Request{Kind: api.KindCompare, Name: "dc=x", Desc: "dc", Value: "x"}, api.ReplyCompare, api.Unwilling, "no compare"},
		{api.Request{Kind: api.KindExtended, Name: api.NoticeOID}, api.ReplyExtended, api.ProtocolError, "no such operation"},
		{api.Request{Kind: api.KindExtended, Name: "1.2", Controls: critical}, api.ReplyExtended, api.CriticalUnavailable, "critical control"},
		{api.Request{Kind: api.KindSearch, Search: q, Controls: critical}, api.ReplyDone, api.CriticalUnavailable, "critical control"},
	} {
		for _, id := range []int{1, 300, api.MaxID} {
			x.r.ID = id
			holdAnswer(t, s, x.r, false, api.Reply{ID: id, Kind: x.kind, Result: api.Result{Code: x.code, Text: x.text}})
		}
	}
}

// P17.3, rules 3 and 4: an unbind and an abandon are not answered, with a critical control too; the first one ends the session.
func TestAnswerUnbindAndAbandon(t *testing.T) {
	s := open(t, chapter)
	critical := []api.Control{{OID: "1.2", Critical: true}}
	holdAnswer(t, s, api.Request{ID: 1, Kind: api.KindUnbind}, true)
	holdAnswer(t, s, api.Request{ID: 1, Kind: api.KindUnbind, Controls: critical}, true)
	holdAnswer(t, s, api.Request{ID: 1, Kind: api.KindAbandon, Abandon: 1}, false)
	holdAnswer(t, s, api.Request{ID: 1, Kind: api.KindAbandon, Controls: critical}, false)
}

// P17.3, rule 5, P0.3: searches that find nothing, one, many, and with a limit; those of the ten examples among them.
func TestAnswerSearch(t *testing.T) {
	s := open(t, ten)
	const root, people, ann, bo = "dc=x", "ou=People,dc=x", "cn=Ann Lee,ou=People,dc=x", "cn=Bo,ou=People,dc=x"
	hold := func(q api.Search, want ...api.Reply) {
		t.Helper()
		holdAnswer(t, s, asking(1, q), false, want...)
	}
	hold(searching(t, "(sn=LEE)", "cn"), entryReply(1, ann, given("cn", "Ann Lee")), entryReply(1, bo, given("cn", "Bo")), done(1, api.Success, ""))
	one := searching(t, "(sn=LEE)", "cn")
	one.SizeLimit = 1
	hold(one, entryReply(1, ann, given("cn", "Ann Lee")), done(1, api.SizeLimitExceeded, ""))
	one.SizeLimit = 2
	hold(one, entryReply(1, ann, given("cn", "Ann Lee")), entryReply(1, bo, given("cn", "Bo")), done(1, api.Success, ""))
	hold(searching(t, "(!(mail=*))", "1.1"), entryReply(1, root), entryReply(1, people), done(1, api.Success, ""))
	hold(searching(t, "(xColour=red)"), done(1, api.Success, ""))
	hold(searching(t, "(!(xColour=red))"), done(1, api.Success, ""))
	hold(searching(t, "(uidNumber>=8)", "1.1"), entryReply(1, bo), done(1, api.Success, ""))
	hold(searching(t, "(name=*e*)", "1.1"), entryReply(1, people), entryReply(1, ann), entryReply(1, bo), done(1, api.Success, ""))
	hold(searching(t, "(mail=*)"), entryReply(1, ann, given("objectClass", "person"), given("sn", "Lee"), given("mail", "ann@x"), given("uidNumber", "7"), given("cn", "Ann Lee")),
		entryReply(1, bo, given("objectClass", "person"), given("sn", "Lee"), given("mail;lang-en", "BO@x"), given("uidNumber", "12"), given("cn", "Bo")), done(1, api.Success, ""))
	typesOnly := searching(t, "(dc=x)")
	typesOnly.TypesOnly = true
	hold(typesOnly, entryReply(1, root, given("objectClass"), given("dc")), done(1, api.Success, ""))
	away := searching(t, "(cn=*)")
	away.Base = "cn=C,ou=PEOPLE,dc=x"
	hold(away, done(1, api.NoSuchObject, people))
	away.Base = ""
	hold(away, done(1, api.NoSuchObject, ""))
	away.Base = "dc"
	hold(away, done(1, api.InvalidName, ""))
	harmless := asking(api.MaxID, searching(t, "(dc=x)", "dc"))
	harmless.Controls = []api.Control{{OID: "1.2"}}
	holdAnswer(t, s, harmless, false, entryReply(api.MaxID, root, given("dc", "x")), done(api.MaxID, api.Success, ""))
}

// P17.3, P0.3: many requests over many snapshots, those that can't be written too, against the document told a second time.
func TestAnswerByChance(t *testing.T) {
	m := newMaker(175)
	kinds := map[api.ReplyKind]int{}
	for range 200 {
		paths := m.paths(m.Intn(12))
		w := newWorld(t, m.snapshot(paths))
		for range 60 {
			r := m.request(paths)
			if m.Intn(8) == 0 {
				r = unwritable(m, r)
			}
			want, ends := w.slowAnswer(r)
			holdAnswer(t, w.server, r, ends, want...)
			for _, reply := range want {
				kinds[reply.Kind]++
			}
		}
	}
	for kind := range api.ReplyExtended + 1 {
		if kinds[kind] < 50 {
			t.Errorf("%d replies of the kind %d are too few", kinds[kind], kind)
		}
	}
}

// P0.5: the entries are no more than there are, and than the limit allows; one done is behind them; every reply bears the request's id; the bytes decode to the very replies.
func TestRepliesAreBounded(t *testing.T) {
	m := newMaker(176)
	for range 100 {
		paths := m.paths(m.Intn(12))
		s := open(t, m.snapshot(paths))
		for range 30 {
			r := m.request(paths)
			replies, _ := s.Answer(r)
			for place, reply := range replies {
				if reply.ID != r.ID || r.Kind == api.KindSearch && (reply.Kind == api.ReplyDone) != (place == len(replies)-1) {
					t.Fatalf("Answer(%s) = %s", told(r), told(replies))
				}
			}
			entries := len(replies) - 1
			if limit := r.Search.SizeLimit; r.Kind == api.KindSearch && (entries > s.Size() || limit > 0 && entries > limit) {
				t.Fatalf("Answer(%s) tells %d entries", told(r), entries)
			}
			answered := string(s.Connect().Feed([]byte(sent(t, r))))
			var back []api.Reply
			for _, text := range frame.Split(len(answered), answered).Messages {
				reply, err := msg.DecodeReply(text)
				if err != api.OK {
					t.Fatalf("%x is no reply", text)
				}
				back = append(back, reply)
			}
			if told(back) != told(slices.Clone(replies)) {
				t.Fatalf("%s is sent as %s", told(replies), told(back))
			}
		}
	}
}
