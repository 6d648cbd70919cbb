package msg

import (
	"testing"

	"roster/api"
	"roster/ber"
)

type replyRow struct {
	bytes string // hexadecimal, the shortest form
	reply api.Reply
}

// replyRows are replies of every kind, each element that may be missing there and not, with content and without; the chapter's examples among them.
func replyRows() []replyRow {
	return []replyRow{
		{"30 0c 02 01 02 65 07 0a 01 00 04 00 04 00", api.Reply{ID: 2, Kind: api.ReplyDone}},
		{"30 0f 02 04 7f ff ff ff 65 07 0a 01 7f 04 00 04 00", api.Reply{ID: api.MaxID, Kind: api.ReplyDone, Result: api.Result{Code: 127}}},
		{"30 10 02 01 03 61 0b 0a 01 31 04 01 61 04 03 c3 a9 62", api.Reply{ID: 3, Kind: api.ReplyBind, Result: api.Result{Code: api.InvalidCredentials, Matched: "a", Text: "éb"}}},
		{"30 0c 02 01 01 67 07 0a 01 35 04 00 04 00", api.Reply{ID: 1, Kind: api.ReplyModify, Result: api.Result{Code: api.Unwilling}}},
		{"30 0d 02 01 01 69 08 0a 01 20 04 01 6d 04 00", api.Reply{ID: 1, Kind: api.ReplyAdd, Result: api.Result{Code: api.NoSuchObject, Matched: "m"}}},
		{"30 0d 02 01 01 6b 08 0a 01 02 04 00 04 01 74", api.Reply{ID: 1, Kind: api.ReplyDelete, Result: api.Result{Code: api.ProtocolError, Text: "t"}}},
		{"30 0c 02 01 01 6d 07 0a 01 01 04 00 04 00", api.Reply{ID: 1, Kind: api.ReplyRename, Result: api.Result{Code: 1}}},
		{"30 0c 02 01 01 6f 07 0a 01 06 04 00 04 00", api.Reply{ID: 1, Kind: api.ReplyCompare, Result: api.Result{Code: 6}}},
		{"30 16 02 01 02 64 11 04 03 6f 3d 78 30 0a 30 08 04 01 6f 31 03 04 01 78", api.Reply{ID: 2, Kind: api.ReplyEntry, Name: "o=x", Attributes: []api.Attr{{Desc: "o", Values: []string{"x"}}}}},
		{"30 09 02 01 02 64 04 04 00 30 00", api.Reply{ID: 2, Kind: api.ReplyEntry}},
		{"30 1e 02 01 02 64 19 04 02 c3 a9 30 13 30 05 04 01 62 31 00 30 0a 04 01 61 31 05 04 01 ff 04 00", api.Reply{ID: 2, Kind: api.ReplyEntry, Name: "é", Attributes: []api.Attr{{Desc: "b"}, {Desc: "a", Values: []string{"\xff", ""}}}}},
		{"30 0c 02 01 00 78 07 0a 01 00 04 00 04 00", api.Reply{Kind: api.ReplyExtended}},
		{"30 0e 02 01 04 78 09 0a 01 00 04 00 04 00 8a 00", api.Reply{ID: 4, Kind: api.ReplyExtended, HasOID: true}},
		{"30 13 02 01 00 78 0e 0a 01 02 04 01 6d 04 01 74 8a 03 31 2e 32", api.Reply{Kind: api.ReplyExtended, Result: api.Result{Code: api.ProtocolError, Matched: "m", Text: "t"}, OID: "1.2", HasOID: true}},
		{"30 25 02 01 00 78 20 0a 01 02 04 00 04 01 78 8a 16 31 2e 33 2e 36 2e 31 2e 34 2e 31 2e 31 34 36 36 2e 32 30 30 33 36", Notice("x")},
		{"30 1d 02 01 02 65 07 0a 01 00 04 00 04 00 a0 0f 30 08 04 03 31 2e 32 01 01 ff 30 03 04 01 61", api.Reply{ID: 2, Kind: api.ReplyDone, Controls: []api.Control{{OID: "1.2", Critical: true}, {OID: "a"}}}},
		{"30 12 02 01 02 64 04 04 00 30 00 a0 07 30 05 04 00 04 01 ff", api.Reply{ID: 2, Kind: api.ReplyEntry, Controls: []api.Control{{Value: "\xff", HasValue: true}}}},
		{"30 17 02 01 00 78 09 0a 01 00 04 00 04 00 8a 00 a0 07 30 05 04 01 61 04 00", api.Reply{Kind: api.ReplyExtended, HasOID: true, Controls: []api.Control{{OID: "a", HasValue: true}}}},
	}
}

// P13.3: replies of every kind, both ways.
func TestReplies(t *testing.T) {
	for _, row := range replyRows() {
		s := fromHex(row.bytes)
		if p, err := DecodeReply(s); err != api.OK || told(p) != told(row.reply) {
			t.Errorf("DecodeReply(%s) = %s, %d, want %s", row.bytes, told(p), err, told(row.reply))
		}
		if got, err := EncodeReply(row.reply); err != api.OK || got != s {
			t.Errorf("EncodeReply(%s) = %x, %d, want %s", told(row.reply), got, err, row.bytes)
		}
		// The words tell the same.
		if !holdDecode(t, s) || !holdEncodeReply(t, row.reply) {
			t.Errorf("the words refuse %s", row.bytes)
		}
	}
}

// P13.3: more forms are read than written.
func TestRepliesInOtherForms(t *testing.T) {
	done := api.Reply{ID: 2, Kind: api.ReplyDone}
	for _, row := range []replyRow{
		{"30 81 0c 02 01 02 65 07 0a 01 00 04 00 04 00", done},
		{"30 84 00 00 00 11 02 81 01 02 65 82 00 09 0a 81 01 00 04 00 04 81 00", done},
		{"30 0e 02 01 02 65 07 0a 01 00 04 00 04 00 a0 00", done},
		{"30 13 02 01 02 65 07 0a 01 00 04 00 04 00 a0 05 30 03 04 01 61", api.Reply{ID: 2, Kind: api.ReplyDone, Controls: []api.Control{{OID: "a"}}}},
		{"30 16 02 01 02 65 07 0a 01 00 04 00 04 00 a0 08 30 06 04 01 61 01 01 00", api.Reply{ID: 2, Kind: api.ReplyDone, Controls: []api.Control{{OID: "a"}}}},
		{"30 18 02 01 02 65 07 0a 01 00 04 00 04 00 a0 0a 30 08 04 01 61 01 01 05 04 00", api.Reply{ID: 2, Kind: api.ReplyDone, Controls: []api.Control{{OID: "a", Critical: true, HasValue: true}}}},
		{"30 0d 02 01 00 78 08 0a 01 00 04 00 04 81 00", api.Reply{Kind: api.ReplyExtended}},
		{"30 0a 02 01 02 64 05 04 00 30 81 00", api.Reply{ID: 2, Kind: api.ReplyEntry}},
	} {
		s := fromHex(row.bytes)
		p, err := DecodeReply(s)
		if err != api.OK || told(p) != told(row.reply) {
			t.Errorf("DecodeReply(%s) = %s, %d, want %s", row.bytes, told(p), err, told(row.reply))
		}
		holdDecode(t, s)
	}
}

// P13.3: texts that are no reply's.
func TestRepliesRefused(t *testing.T) {
	for _, s := range []string{
		"", "30", "30 00", "30 0c 02 01 02 65 07 0a 01 00 04 00 04", "30 0c 02 01 02 65 07 0a 01 00 04 00 04 00 00", "30 80 02 01 02 65 07 0a 01 00 04 00 04 00 00 00", "30 05 02 01 03 42 00",
	} {
		holdRefusedReply(t, fromHex(s))
	}
	for _, one := range []string{
		// around
		"31{02<02>65{0a<00>04<>04<>}}", "30{02<02>}", "30{65{0a<00>04<>04<>}}", "30{65{0a<00>04<>04<>}02<02>}", "30{02<02>65{0a<00>04<>04<>}05<>}", "30{02<02>65{0a<00>04<>04<>}65{0a<00>04<>04<>}}", "65{0a<00>04<>04<>}",
		// ids
		"30{02<00>61{0a<00>04<>04<>}}", "30{02<00>65{0a<00>04<>04<>}}", "30{02<00>67{0a<00>04<>04<>}}", "30{02<00>69{0a<00>04<>04<>}}", "30{02<00>6b{0a<00>04<>04<>}}", "30{02<00>6d{0a<00>04<>04<>}}", "30{02<00>6f{0a<00>04<>04<>}}", "30{02<00>64{04<>30{}}}",
		"30{02<ff>78{0a<00>04<>04<>}}", "30{02<0080000000>78{0a<00>04<>04<>}}", "30{02<0000>78{0a<00>04<>04<>}}", "30{02<>78{0a<00>04<>04<>}}", "30{0a<00>78{0a<00>04<>04<>}}", "30{02<ff>65{0a<00>04<>04<>}}", "30{02<0002>65{0a<00>04<>04<>}}", "30{02<0080000000>65{0a<00>04<>04<>}}", "30{02<80000000>64{04<>30{}}}",
		// answers that are none
		"30{02<03>42<>}", "30{02<02>60{0a<00>04<>04<>}}", "30{02<02>62{0a<00>04<>04<>}}", "30{02<02>63{0a<00>04<>04<>}}", "30{02<02>70{0a<00>04<>04<>}}", "30{02<02>73{04<>}}", "30{02<02>77{0a<00>04<>04<>}}", "30{02<02>79{0a<00>04<>04<>}}", "30{02<02>45<0a010004000400>}", "30{02<02>a5{0a<00>04<>04<>}}", "30{02<02>25{0a<00>04<>04<>}}",
		// results
		"30{02<02>65{}}", "30{02<02>65{0a<00>}}", "30{02<02>65{0a<00>04<>}}", "30{02<02>65{04<>04<>}}", "30{02<02>65{0a<00>04<>04<>04<>}}", "30{02<02>65{0a<0080>04<>04<>}}", "30{02<02>65{0a<ff>04<>04<>}}", "30{02<02>65{0a<0001>04<>04<>}}", "30{02<02>65{0a<>04<>04<>}}", "30{02<02>65{02<00>04<>04<>}}", "30{02<02>65{0a<00>04<ff>04<>}}", "30{02<02>65{0a<00>04<>04<ff>}}", "30{02<02>65{04<>0a<00>04<>}}",
		"30{02<02>65{0a<00>04<>04<>8a<>}}", "30{02<02>61{0a<00>04<>04<>8a<>}}", "30{02<02>61{0a<00>04<>04<>87<>}}", "30{02<02>65{0a<00>04<>04<>a3{}}}", "30{02<02>65{0a<00>24{}04<>}}", "30{02<02>65{0a<00>0a<00>04<>04<>}}", "30{02<02>67{0a<00>04<>04<>05<>}}", "30{02<02>69{0a<00>04<>05<>}}", "30{02<02>6b{0a<00>}}", "30{02<02>6d{}}", "30{02<02>6f{0a<80>04<>04<>}}",
		// entries
		"30{02<02>64{}}", "30{02<02>64{04<>}}", "30{02<02>64{30{}}}", "30{02<02>64{04<ff>30{}}}", "30{02<02>64{04<>31{}}}", "30{02<02>64{04<>30{30{}}}}", "30{02<02>64{04<>30{30{04<ff>31{}}}}}", "30{02<02>64{04<>30{30{04<>}}}}", "30{02<02>64{04<>30{30{04<>30{}}}}}", "30{02<02>64{04<>30{30{04<>31{05<>}}}}}", "30{02<02>64{04<>30{30{04<>31{}05<>}}}}", "30{02<02>64{04<>30{}05<>}}", "30{02<02>64{04<>30{31{04<>31{}}}}}", "30{02<02>64{30{}04<>}}", "30{02<02>64{04<>30{30{31{}04<>}}}}", "30{02<02>64{0a<00>04<>04<>}}",
		// extended
		"30{02<00>78{}}", "30{02<00>78{8a<>}}", "30{02<00>78{0a<00>04<>04<>8a<ff>}}", "30{02<00>78{0a<00>04<>04<>8b<>}}", "30{02<00>78{0a<00>04<>04<>8a<>8a<>}}", "30{02<00>78{0a<00>04<>04<>8a<>8b<>}}", "30{02<00>78{8a<>0a<00>04<>04<>}}", "30{02<00>78{0a<00>04<>04<>aa{}}}", "30{02<00>78{0a<00>04<>8a<>04<>}}", "30{02<00>78{0a<00>04<ff>04<>}}", "30{02<00>78{0a<0080>04<>04<>}}",
		// controls
		"30{02<02>65{0a<00>04<>04<>}a1{}}", "30{02<02>65{0a<00>04<>04<>}80<>}", "30{02<02>65{0a<00>04<>04<>}a0{}a0{}}", "30{02<02>65{0a<00>04<>04<>}a0{30{}}}", "30{02<02>65{0a<00>04<>04<>}a0{30{04<ff>}}}", "30{02<02>65{0a<00>04<>04<>}a0{30{04<>04<>01<ff>}}}", "30{02<02>a0{}65{0a<00>04<>04<>}}", "30{02<02>64{04<>30{}}a0{30{04<>01<>}}}", "30{02<00>78{0a<00>04<>04<>}a0{05<>}}", "30{02<02>65{0a<00>04<>04<>}a0{}05<>}",
	} {
		s := drawn(one)
		if _, err, _ := ber.Tree(s); err != api.OK {
			t.Errorf("%s is no whole element: %d", one, err)
		}
		holdRefusedReply(t, s)
	}
}

func holdRefusedReply(t *testing.T, s string) {
	t.Helper()
	if p, err := DecodeReply(s); err != api.ErrMessage || told(p) != "{}" {
		t.Errorf("DecodeReply(%x) = %s, %d, want ErrMessage", s, told(p), err)
	}
	if fits(replyForm, s) {
		t.Errorf("the words take %x", s)
	}
}

// P13.3: replies that no text means.
func TestRepliesThatCannotBeWritten(t *testing.T) {
	for _, p := range []api.Reply{
		{}, {Kind: api.ReplyDone}, {Kind: api.ReplyBind}, {Kind: api.ReplyEntry}, {Kind: api.ReplyCompare}, {ID: -1, Kind: api.ReplyExtended}, {ID: api.MaxID + 1, Kind: api.ReplyExtended}, {ID: api.MaxID + 1, Kind: api.ReplyDone}, {ID: -1, Kind: api.ReplyDone}, {ID: 1 << 32, Kind: api.ReplyExtended},
		{ID: 1, Kind: 9}, {ID: 1, Kind: -1}, {ID: 1, Kind: 1 << 40}, {ID: 1, Kind: -1 << 63},
		{ID: 1, Kind: api.ReplyDone, Result: api.Result{Code: 128}}, {ID: 1, Kind: api.ReplyDone, Result: api.Result{Code: -1}}, {ID: 1, Kind: api.ReplyExtended, Result: api.Result{Code: 1 << 32}}, {ID: 1, Kind: api.ReplyDone, Result: api.Result{Matched: "\xff"}}, {ID: 1, Kind: api.ReplyDone, Result: api.Result{Text: "\xff"}},
		{ID: 1, Kind: api.ReplyDone, Name: "x"}, {ID: 1, Kind: api.ReplyDone, HasOID: true}, {ID: 1, Kind: api.ReplyDone, OID: "x"}, {ID: 1, Kind: api.ReplyBind, Attributes: []api.Attr{{}}}, {ID: 1, Kind: api.ReplyExtended, Name: "x"}, {ID: 1, Kind: api.ReplyExtended, Attributes: []api.Attr{{}}},
		{ID: 1, Kind: api.ReplyEntry, Result: api.Result{Code: 1}}, {ID: 1, Kind: api.ReplyEntry, Result: api.Result{Matched: "x"}}, {ID: 1, Kind: api.ReplyEntry, Result: api.Result{Text: "x"}}, {ID: 1, Kind: api.ReplyEntry, OID: "x", HasOID: true}, {ID: 1, Kind: api.ReplyEntry, HasOID: true},
		{ID: 1, Kind: api.ReplyEntry, Name: "\xff"}, {ID: 1, Kind: api.ReplyEntry, Attributes: []api.Attr{{Desc: "\xff"}}}, {ID: 1, Kind: api.ReplyEntry, Attributes: []api.Attr{{}, {Desc: "o", Canon: "o", Values: []string{"x"}}}},
		{ID: 1, Kind: api.ReplyExtended, OID: "x"}, {ID: 1, Kind: api.ReplyExtended, OID: "\xff", HasOID: true},
		{ID: 1, Kind: api.ReplyDone, Controls: []api.Control{{OID: "\xff"}}}, {ID: 1, Kind: api.ReplyEntry, Controls: []api.Control{{Value: "x"}}},
		Notice("\xff"),
	} {
		if s, err := EncodeReply(p); err != api.ErrCraft || s != "" {
			t.Errorf("EncodeReply(%s) = %x, %d, want ErrCraft", told(p), s, err)
		}
		if _, err := slowEncodeReply(p); err != api.ErrCraft {
			t.Errorf("the words write %s", told(p))
		}
	}
}
