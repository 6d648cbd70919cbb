package msg

import (
	"testing"

	"roster/api"
)

// The table of refusals, told a second time: its rows in their order, each with what it applies to.

type refusalRow struct {
	applies func(r api.Request) bool
	code    api.Code
	text    string
	reply   bool
}

func refusalRows() []refusalRow {
	kinds := func(list ...api.Kind) func(api.Request) bool {
		return func(r api.Request) bool {
			for _, kind := range list {
				if r.Kind == kind {
					return true
				}
			}
			return false
		}
	}
	bind := func(more func(b api.Bind) bool) func(api.Request) bool {
		return func(r api.Request) bool { return r.Kind == 0 && more(r.Bind) }
	}
	return []refusalRow{
		{func(r api.Request) bool { return r.Kind == 1 || r.Kind == 8 || r.Kind < 0 || r.Kind > 9 }, 0, "", false},
		{func(r api.Request) bool {
			some := false
			for _, c := range r.Controls {
				some = some || c.Critical
			}
			return some
		}, 12, "critical control", true},
		{bind(func(b api.Bind) bool { return b.Version != 3 }), 2, "version 3 only", true},
		{bind(func(b api.Bind) bool { return b.Method != 0 }), 7, "simple only", true},
		{bind(func(b api.Bind) bool { return len(b.Password) > 0 }), 49, "anonymous only", true},
		{bind(func(b api.Bind) bool { return len(b.Name) > 0 }), 53, "name without password", true},
		{bind(func(b api.Bind) bool { return true }), 0, "", true},
		{kinds(api.KindSearch), 0, "", false},
		{kinds(api.KindModify, api.KindAdd, api.KindDelete, api.KindRename), 53, "read only", true},
		{kinds(api.KindCompare), 53, "no compare", true},
		{kinds(api.KindExtended), 2, "no such operation", true},
	}
}

var answering = map[api.Kind]api.ReplyKind{
	api.KindBind: api.ReplyBind, api.KindSearch: api.ReplyDone, api.KindModify: api.ReplyModify, api.KindAdd: api.ReplyAdd,
	api.KindDelete: api.ReplyDelete, api.KindRename: api.ReplyRename, api.KindCompare: api.ReplyCompare, api.KindExtended: api.ReplyExtended,
}

// slowRefusal answers also the number of the row.
func slowRefusal(r api.Request) (api.Reply, bool, int) {
	for number, row := range refusalRows() {
		if !row.applies(r) {
			continue
		}
		if !row.reply {
			return api.Reply{}, false, number
		}
		return api.Reply{ID: r.ID, Kind: answering[r.Kind], Result: api.Result{Code: row.code, Text: row.text}}, true, number
	}
	panic("no row applies")
}

// P13.5: the chapter's examples.
func TestRefusals(t *testing.T) {
	for _, x := range []struct {
		bytes string
		reply api.Reply
		ok    bool
	}{
		{"30 0c 02 01 01 60 07 02 01 03 04 00 80 00", api.Reply{ID: 1, Kind: api.ReplyBind}, true},
		{"30 06 02 01 02 50 01 01", api.Reply{}, false},
		{"30 05 02 01 03 42 00", api.Reply{}, false},
		{"30 14 02 01 05 4a 03 6f 3d 78 a0 0a 30 08 04 03 31 2e 32 01 01 ff", api.Reply{ID: 5, Kind: api.ReplyDelete, Result: api.Result{Code: api.CriticalUnavailable, Text: "critical control"}}, true},
		{"30 08 02 01 05 4a 03 6f 3d 78", api.Reply{ID: 5, Kind: api.ReplyDelete, Result: api.Result{Code: api.Unwilling, Text: "read only"}}, true},
	} {
		r, err := DecodeRequest(fromHex(x.bytes))
		if p, ok := Refusal(r); err != api.OK || ok != x.ok || told(p) != told(x.reply) {
			t.Errorf("Refusal of %s = %s, %v, want %s, %v", x.bytes, told(p), ok, told(x.reply), x.ok)
		}
	}
}

// P13.5: every kind with every mixture of what the table looks at, so that of each two rows it is seen which goes first.
func TestRefusalsAgainstWords(t *testing.T) {
	plain, critical := api.Control{OID: "1.2"}, api.Control{OID: "1.2", Critical: true}
	seen := map[int]int{}
	for _, controls := range [][]api.Control{nil, {}, {plain}, {critical}, {plain, critical}, {critical, plain}, {plain, plain}, {{OID: "\xff", Value: "x", Critical: true}}} {
		for _, kind := range []api.Kind{-1 << 63, -1, 0, 1, 2, 3, 4, 5, 6, 7, 8, 9, 10, 11, 1 << 32, 1<<63 - 1} {
			for _, version := range []int{-1, 0, 2, 3, 4, 128, 1<<32 + 3} {
				for _, method := range []api.Method{-1, 0, 1, 2, 1 << 32} {
					for _, password := range []string{"", "x", "\x00"} {
						for _, name := range []string{"", "x", "\xff"} {
							r := api.Request{ID: 7, Kind: kind, Controls: controls, Bind: api.Bind{Version: version, Method: method, Password: password, Name: name}}
							seen[holdRefusal(t, r)]++
						}
					}
				}
			}
		}
	}
	for number := range refusalRows() {
		if seen[number] == 0 {
			t.Errorf("the row %d was never the first", number)
		}
	}
}

func holdRefusal(t *testing.T, r api.Request) int {
	t.Helper()
	want, wantOK, number := slowRefusal(r)
	if p, ok := Refusal(r); ok != wantOK || told(p) != told(want) {
		t.Errorf("Refusal(%s) = %s, %v, want %s, %v", told(r), told(p), ok, told(want), wantOK)
	}
	return number
}

// P13.5: the reply has the request's id, whatever it is; nothing but the id, the kind, the controls and the bind is looked at.
func TestRefusalsLookAtNothingElse(t *testing.T) {
	for kind := api.Kind(-1); kind <= 10; kind++ {
		for _, id := range []int{-1 << 63, -4, 0, 1, api.MaxID, api.MaxID + 1, 1<<63 - 1} {
			bare := api.Request{ID: id, Kind: kind, Bind: api.Bind{Version: 3}}
			holdRefusal(t, bare)
			junk := api.Request{ID: id, Kind: kind, Bind: api.Bind{Version: 3, Mechanism: "m", Credentials: "c", HasCredentials: true},
				Search: api.Search{Base: "\xff", Scope: 9, Attributes: []string{"x"}}, Name: "\xff", Changes: []api.Change{{Kind: 9}}, Attributes: []api.Attr{{Canon: "x"}},
				NewRDN: "x", DeleteOld: true, NewSuperior: "x", HasNewSuperior: true, Desc: "x", Value: "x", HasValue: true, Abandon: -1,
				Controls: []api.Control{{Value: "x"}}}
			one, oneOK := Refusal(bare)
			other, otherOK := Refusal(junk)
			if told(one) != told(other) || oneOK != otherOK {
				t.Errorf("Refusal of the kind %d hangs on another field: %s, %v and %s, %v", kind, told(one), oneOK, told(other), otherOK)
			}
		}
	}
}

// P13.5, P13.3: what refuses a request that can be written is a reply that can be written.
func TestRefusalsCanBeWritten(t *testing.T) {
	for _, row := range requestRows() {
		p, ok := Refusal(row.request)
		if !ok {
			continue
		}
		if s, err := EncodeReply(p); err != api.OK || s == "" {
			t.Errorf("EncodeReply(%s): %d", told(p), err)
		}
	}
}

// P13.6: the notice, with any text.
func TestNotice(t *testing.T) {
	for _, text := range []string{"", "x", api.NoticeText, "é", "\xff", "a\x00b"} {
		want := api.Reply{ID: 0, Kind: api.ReplyExtended, Result: api.Result{Code: 2, Text: text}, OID: "1.3.6.1.4.1.1466.20036", HasOID: true}
		if p := Notice(text); told(p) != told(want) {
			t.Errorf("Notice(%q) = %s, want %s", text, told(p), told(want))
		}
	}
	s, err := EncodeReply(Notice(api.NoticeText))
	want := fromHex("30 3f 02 01 00 78 3a 0a 01 02 04 00 04 1b") + "no message of this protocol" + fromHex("8a 16") + "1.3.6.1.4.1.1466.20036"
	if err != api.OK || s != want {
		t.Errorf("the notice is %x, %d, want %x", s, err, want)
	}
	if s, err := EncodeReply(Notice("\xff")); err != api.ErrCraft || s != "" {
		t.Errorf("a notice that isn't UTF-8 is %x, %d", s, err)
	}
}
