package client

import (
	"slices"
	"strings"
	"testing"

	"roster/api"
	"roster/frame"
	"roster/msg"
)

// lines are one command for each kind of requests that waits.
func lines() map[api.Kind]string {
	return map[api.Kind]string{api.KindBind: "bind", api.KindSearch: "search ldap:///dc=x", api.KindModify: "modify n", api.KindAdd: "add n d v", api.KindDelete: "delete n", api.KindRename: "rename n p", api.KindCompare: "compare n d v", api.KindExtended: "extended n"}
}

// P19.3: the chapter's example 7.
func TestTalkExample(t *testing.T) {
	x := newTalk(t)
	x.holdSeen(t, false)
	got, err := x.Send("bind")
	if string(got) != "\x30\x0c\x02\x01\x01\x60\x07\x02\x01\x03\x04\x00\x80\x00" || err != api.OK {
		t.Fatalf("Send(bind) = %x, %d", got, err)
	}
	x.slowSend("bind")
	x.holdSeen(t, false, 1)
	x.send(t, "abandon 1")
	x.holdSeen(t, false)
	x.holdTold(t, welcome, "", api.OK)
	x.holdTold(t, welcome, "", api.OK)
	x.holdSeen(t, false)
	x.holdTold(t, end(7, api.ReplyBind), "", api.ErrStray)
	x.holdSeen(t, true)
}

// P19.3: the bytes that are sent are the request's, with the ids 1, 2 and so on; what waits is told rising.
func TestSend(t *testing.T) {
	x := newTalk(t)
	var ids []int
	all := []string{"bind", "search ldap:///dc=x?cn,*?sub?(cn=a%20*) 5 types", "modify n", "add n d %ff", "delete n", "rename n p", "compare n d v", "extended 1.2", "extended 1.2 v", "bind n p"}
	for range 30 { // more ids than a map tells in their order by luck
		for _, line := range all {
			want, _, _ := Parse(line)
			want.ID = len(ids) + 1
			ids = append(ids, want.ID)
			x.kinds, x.states = append(x.kinds, want.Kind), append(x.states, waits)
			got, err := x.Send(line)
			sent, bad := msg.DecodeRequest(string(got))
			if err != api.OK || bad != api.OK || told(sent) != told(want) {
				t.Fatalf("Send(%q) = %x, %d: %s", line, got, err, told(sent))
			}
			x.holdSeen(t, false, ids...)
			x.hold(t)
		}
	}
}

// P19.3: neither a line that is refused nor a request that can't be written uses up an id, and nothing changes.
func TestSendRefused(t *testing.T) {
	deep := "search ldap:///???" + strings.Repeat("(!", 61) + "(a=b)" + strings.Repeat(")", 61)
	for line, number := range map[string]api.Errno{
		"": api.ErrNothing, " \t": api.ErrNothing, "# bind": api.ErrNothing, "fly": api.ErrCommand, "bind a b c": api.ErrCommand, "delete": api.ErrCommand, "unbind x": api.ErrCommand, "abandon x": api.ErrCommand, "delete %": api.ErrPercent,
		"search ldap:///dc": api.ErrURLName, "search ldap:///????!x": api.ErrExtension, "search x": api.ErrScheme,
		"delete %ff": api.ErrCraft, "bind %ff": api.ErrCraft, "modify %c3": api.ErrCraft, "add %ff d v": api.ErrCraft, "add n %ff v": api.ErrCraft, "rename n %ff": api.ErrCraft, "rename %ff n": api.ErrCraft, "compare %ff d v": api.ErrCraft, "compare n %ff v": api.ErrCraft,
		"extended %ff": api.ErrCraft, deep + " 1": api.ErrCraft,
	} {
		x := newTalk(t, "bind")
		for range 3 {
			if got, err := x.Send(line); len(got) != 0 || err != number {
				t.Fatalf("Send(%q) = %x, %d; want %d", line, got, err, number)
			}
			x.holdSeen(t, false, 1)
		}
		x.send(t, line)
		x.send(t, "delete n")
		x.holdSeen(t, false, 1, 2)
		x.holdTold(t, end(2, api.ReplyDelete)+welcome, "# 2 delete 0\n# 1 bind 0\n", api.OK)
		x.holdSeen(t, false)
	}
	// What is any bytes in the protocol may be any bytes here.
	newTalk(t, "bind n %ff", "add n d %ff", "compare n d %ff", "extended n %ff").holdSeen(t, false, 1, 2, 3, 4)
}

// P19.3: the greatest id, and none behind it.
func TestSendGreatestID(t *testing.T) {
	c := New()
	c.sent = api.MaxID - 1
	got, err := c.Send("bind")
	if r, _ := msg.DecodeRequest(string(got)); err != api.OK || r.ID != api.MaxID {
		t.Fatalf("Send = %x, %d", got, err)
	}
	for range 2 {
		if got, err := c.Send("unbind"); len(got) != 0 || err != api.ErrCraft || c.Over() || !slices.Equal(c.Waiting(), []int{api.MaxID}) {
			t.Fatalf("Send = %x, %d", got, err)
		}
	}
}

// P19.3: an unbind ends the talk; nothing waits any more, and every line and every chunk behind it is refused so.
func TestUnbind(t *testing.T) {
	for _, ahead := range [][]string{nil, {"bind"}, {"bind", "search ldap:///dc=x", "abandon 1"}} {
		x := newTalk(t, ahead...)
		x.holdTold(t, welcome[:5], "", api.OK)
		got, err := x.Send("Unbind ")
		if r, bad := msg.DecodeRequest(string(got)); err != api.OK || bad != api.OK || told(r) != told(api.Request{ID: len(ahead) + 1, Kind: api.KindUnbind}) {
			t.Fatalf("Send(unbind) = %x, %d", got, err)
		}
		x.slowSend("unbind")
		holdOver(t, x)
	}
}

// holdOver holds all that a talk that is over answers, and that it keeps nothing.
func holdOver(t *testing.T, x *talk) {
	t.Helper()
	x.holdSeen(t, true)
	for _, line := range []string{"", "# x", "bind", "unbind", "abandon 1", "fly", "delete %ff", "delete %"} {
		if got, err := x.Send(line); len(got) != 0 || err != api.ErrEnded {
			t.Fatalf("behind the end: Send(%q) = %x, %d", line, got, err)
		}
		x.holdSeen(t, true)
	}
	for _, chunk := range []string{"", welcome[5:], welcome, notice, "\x31", "\x30\x00", found(2, "dc=x")} {
		x.holdTold(t, chunk, "", api.ErrEnded)
		x.holdSeen(t, true)
	}
	if got, err := x.Receive(nil); got != "" || err != api.ErrEnded {
		t.Fatalf("behind the end: Receive(nil) = %q, %d", got, err)
	}
	if told(*x.Client) != told(Client{over: true}) || x.framer != nil {
		t.Fatalf("behind the end it keeps %s", told(*x.Client))
	}
}

// P19.3: an abandon of an id that waits, that has its end, that was given up, that was never sent, that is an abandon's own or will be sent yet.
func TestAbandon(t *testing.T) {
	x := newTalk(t, "bind", "search ldap:///dc=x", "delete n")
	x.holdTold(t, end(3, api.ReplyDelete), "# 3 delete 0\n", api.OK)
	x.holdTold(t, found(2, "a"), "# 2 entry\ndn: a\ncn: a\ncn:: IGI=\n\n", api.OK)
	for _, line := range []string{"abandon 3", "abandon 0", "abandon 2147483647", "abandon 7", "abandon 9"} { // the fourth names its own id, the fifth one that is sent yet
		x.send(t, line)
		x.holdSeen(t, false, 1, 2)
	}
	x.send(t, "bind")
	x.holdSeen(t, false, 1, 2, 9)
	x.send(t, "abandon 2")
	x.holdSeen(t, false, 1, 9)
	x.send(t, "abandon 2")
	x.holdSeen(t, false, 1, 9)
	for range 3 { // given up for the whole talk, whatever comes
		x.holdTold(t, found(2, "b")+end(2, api.ReplyDone)+end(2, api.ReplyBind)+found(2, "c"), "", api.OK)
		x.holdSeen(t, false, 1, 9)
	}
	x.holdTold(t, end(9, api.ReplyBind)+end(2, api.ReplyDone)+welcome, "# 9 bind 0\n# 1 bind 0\n", api.OK)
	x.holdSeen(t, false)
	x.holdTold(t, end(3, api.ReplyDelete), "", api.ErrStray) // its end had come when it was abandoned
	holdOver(t, x)
}

// P19.3: an abandon and an unbind are answered by nothing.
func TestNoAnswer(t *testing.T) {
	for kind := range api.ReplyKind(9) {
		x := newTalk(t, "abandon 1")
		reply := api.Reply{ID: 1, Kind: kind}
		x.holdTold(t, encoded(reply), "", api.ErrStray)
		holdOver(t, x)
	}
}

// P19.3: of each kind of requests, each kind of replies: the one that answers it, entries of a search, and else a stray.
func TestAnswers(t *testing.T) {
	for kind, line := range lines() {
		for reply := range api.ReplyKind(9) {
			shown := "# 2 " + replyWords[reply] + " 0\n"
			if reply == api.ReplyEntry {
				shown = "# 2 entry\ndn:\n\n"
			}
			x := newTalk(t, "bind n", line, "bind")
			message := end(2, reply)
			switch {
			case reply == ending(kind):
				x.holdTold(t, message, shown, api.OK)
				x.holdSeen(t, false, 1, 3)
				x.holdTold(t, welcome+message, "# 1 bind 0\n", api.ErrStray) // it has its end already
			case reply == api.ReplyEntry && kind == api.KindSearch:
				x.holdTold(t, message, shown, api.OK)
				x.holdSeen(t, false, 1, 2, 3)
				x.holdTold(t, message+message+end(2, api.ReplyDone), shown+shown+"# 2 done 0\n", api.OK)
				x.holdSeen(t, false, 1, 3)
				x.holdTold(t, message, "", api.ErrStray)
			default:
				x.holdTold(t, welcome+message+end(3, api.ReplyBind), "# 1 bind 0\n", api.ErrStray)
			}
			holdOver(t, x)
		}
	}
}

// P19.3: a reply to what was never sent, with the texts ahead of it told.
func TestStray(t *testing.T) {
	for _, id := range []int{2, 3, 300, api.MaxID} {
		x := newTalk(t, "bind")
		x.holdTold(t, welcome+end(id, api.ReplyBind)+welcome, "# 1 bind 0\n", api.ErrStray)
		holdOver(t, x)
	}
	x := newTalk(t)
	x.holdTold(t, welcome, "", api.ErrStray)
	holdOver(t, x)
}

// P19.3: a message that is no reply, alone and with others about it; a request's id of a given up one doesn't help it.
func TestNoReply(t *testing.T) {
	for _, bad := range noReplies() {
		x := newTalk(t, "bind", "search ldap:///dc=x")
		x.holdTold(t, bad, "", api.ErrMessage)
		holdOver(t, x)

		x = newTalk(t, "bind", "search ldap:///dc=x")
		x.holdTold(t, found(2, "a")+welcome+bad+end(2, api.ReplyDone)+"\x31", "# 2 entry\ndn: a\ncn: a\ncn:: IGI=\n\n# 1 bind 0\n", api.ErrMessage)
		holdOver(t, x)

		x = newTalk(t, "bind", "abandon 1")
		x.holdTold(t, welcome+bad[:len(bad)-1], "", api.OK) // not whole, so not looked at
		x.holdSeen(t, false)
		x.holdTold(t, bad[len(bad)-1:], "", api.ErrMessage)
		holdOver(t, x)
	}
}

// P19.3: a header that is refused, alone, behind replies, and behind those that end the talk themselves.
func TestNoHeader(t *testing.T) {
	for bad, number := range noHeaders() {
		x := newTalk(t, "bind")
		x.holdTold(t, bad, "", number)
		holdOver(t, x)

		x = newTalk(t, "bind", "delete n")
		x.holdTold(t, welcome+bad+end(2, api.ReplyDelete), "# 1 bind 0\n", number)
		holdOver(t, x)

		x = newTalk(t, "bind", "delete n")
		x.holdTold(t, welcome+notice+bad, "# 1 bind 0\n"+noticed, api.OK)
		holdOver(t, x)

		x = newTalk(t, "bind", "delete n")
		x.holdTold(t, welcome+welcome+bad, "# 1 bind 0\n", api.ErrStray)
		holdOver(t, x)

		x = newTalk(t, "bind")
		x.holdTold(t, "\x30\x00"+bad, "", api.ErrMessage)
		holdOver(t, x)

		x = newTalk(t, "bind") // each byte alone: refused with the last one, and not before
		for place := range len(bad) - 1 {
			x.holdTold(t, bad[place:place+1], "", api.OK)
			x.holdSeen(t, false, 1)
		}
		x.holdTold(t, bad[len(bad)-1:], "", number)
		holdOver(t, x)
	}
}

// P19.3: a reply with the id 0, a notice or any other: its text, and the end; what follows is thrown away.
func TestNotice(t *testing.T) {
	other := encoded(api.Reply{Kind: api.ReplyExtended, Result: api.Result{Matched: "m"}, Controls: []api.Control{{OID: "1.2"}}})
	for message, shown := range map[string]string{notice: noticed, other: "# 0 extended 0\nmatched: m\ncontrol: 1.2\n"} {
		for _, behind := range []string{"", welcome, welcome[:5], "\x31", "\x30\x00", notice} {
			x := newTalk(t, "bind", "extended n")
			x.holdTold(t, message+behind, shown, api.OK)
			holdOver(t, x)

			x = newTalk(t, "bind", "extended n", "abandon 2")
			x.holdTold(t, end(2, api.ReplyExtended)+welcome+message+behind, "# 1 bind 0\n"+shown, api.OK)
			holdOver(t, x)
		}
		x := newTalk(t)
		x.holdTold(t, message, shown, api.OK)
		holdOver(t, x)
	}
}

// P19.3: several replies at once, in whatever order; ids that wait stay so, and sending goes on between.
func TestReceiveSeveral(t *testing.T) {
	x := newTalk(t, "bind", "search ldap:///dc=x", "search ldap:///dc=x")
	x.holdTold(t, "", "", api.OK)
	if got, err := x.Receive(nil); got != "" || err != api.OK {
		t.Fatalf("Receive(nil) = %q, %d", got, err)
	}
	a, shown := found(3, "a"), "# 3 entry\ndn: a\ncn: a\ncn:: IGI=\n\n"
	x.holdTold(t, a+end(2, api.ReplyDone)+a+a[:9], shown+"# 2 done 0\n"+shown, api.OK)
	x.holdSeen(t, false, 1, 3)
	x.send(t, "compare n d v")
	x.holdSeen(t, false, 1, 3, 4)
	x.holdTold(t, a[9:]+end(4, api.ReplyCompare)+end(3, api.ReplyDone), shown+"# 4 compare 0\n# 3 done 0\n", api.OK)
	x.holdSeen(t, false, 1)
	x.holdTold(t, end(1, api.ReplyBind), "# 1 bind 0\n", api.OK)
	x.holdSeen(t, false)
	x.send(t, "extended n")
	x.holdSeen(t, false, 5)
	x.holdTold(t, lengthened(encoded(api.Reply{ID: 5, Kind: api.ReplyExtended, OID: "", HasOID: true}), 4), "# 5 extended 0\noid:\n", api.OK)
	x.holdSeen(t, false)
}

// P19.3: a reply beyond the server's limit of a message: to a client no message is too long.
func TestReceiveGreat(t *testing.T) {
	long := strings.Repeat("v", api.MaxMessage+1)
	great := encoded(api.Reply{ID: 1, Kind: api.ReplyEntry, Name: "n", Attributes: []api.Attr{{Desc: "cn", Values: []string{long}}}})
	x := newTalk(t, "search ldap:///dc=x")
	x.holdTold(t, great[:99], "", api.OK)
	x.holdTold(t, great[99:]+great, strings.Repeat("# 1 entry\ndn: n\ncn: "+long+"\n\n", 2), api.OK)
	x.holdSeen(t, false, 1)
	// The greatest length that a header tells is waited for.
	x.holdTold(t, "\x30\x84\xff\xff\xff\xff\x02", "", api.OK)
	x.holdSeen(t, false, 1)
	if x.framer.Held() != 7 {
		t.Errorf("it holds %d bytes", x.framer.Held())
	}
}

// P19.3: many talks, with sends and chunks in turns.
func TestTalksByChance(t *testing.T) {
	m := newMaker(192)
	ends := map[api.Errno]int{}
	for range 4000 {
		x := newTalk(t)
		for range 12 {
			if m.Intn(3) == 0 {
				for range m.Intn(4) {
					line := m.line()
					if m.Intn(4) > 0 && strings.Contains(lower(line), "unbind") {
						line = "bind"
					}
					x.send(t, line)
				}
			}
			for _, chunk := range m.cuts(m.stream(x, 3)) {
				before := x.over
				if _, err := x.receive(t, chunk); !before && x.over {
					ends[err]++
				}
			}
		}
	}
	for _, number := range []api.Errno{api.OK, api.ErrMessage, api.ErrStray, api.ErrFirst, api.ErrFrameIndefinite, api.ErrFrameLength} {
		if ends[number] < 20 {
			t.Errorf("only %d talks end with %d: %v", ends[number], number, ends)
		}
	}
}

// P19.3: talks know nothing of one another.
func TestTalksInTurns(t *testing.T) {
	a, b := newTalk(t, "bind"), newTalk(t, "search ldap:///dc=x", "abandon 1")
	c := newTalk(t, "unbind")
	a.holdTold(t, welcome[:5], "", api.OK)
	b.holdTold(t, found(1, "a")[:7], "", api.OK)
	c.holdTold(t, welcome, "", api.ErrEnded)
	a.holdTold(t, welcome[5:], "# 1 bind 0\n", api.OK)
	b.holdTold(t, found(1, "a")[7:], "", api.OK)
	b.send(t, "delete n")
	b.holdSeen(t, false, 3)
	a.holdSeen(t, false)
	a.send(t, "bind")
	a.holdSeen(t, false, 2)
	a.holdTold(t, "\x31", "", api.ErrFirst)
	b.holdSeen(t, false, 3)
	newTalk(t, "bind").holdSeen(t, false, 1)
}

// What is made is what it is said to be.
func TestMade(t *testing.T) {
	for _, message := range noReplies() {
		if cut := frame.Split(limit, message); len(cut.Messages) != 1 || cut.Messages[0] != message {
			t.Errorf("%x is no message", message)
		}
		if _, err := msg.DecodeReply(message); err != api.ErrMessage {
			t.Errorf("%x is a reply", message)
		}
	}
	for header, number := range noHeaders() {
		if cut := frame.Split(limit, header); len(cut.Messages) != 0 || cut.Err != number || frame.Split(limit, header[:len(header)-1]).Err != api.OK {
			t.Errorf("%x is no header that is refused with its last byte", header)
		}
	}
}
