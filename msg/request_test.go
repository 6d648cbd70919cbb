package msg

import (
	"testing"

	"roster/api"
	"roster/ber"
)

type requestRow struct {
	bytes   string // hexadecimal, the shortest form
	request api.Request
}

func present(desc string) api.Filter { return api.Filter{{Depth: 1, Op: api.Present, Desc: desc}} }

// requestRows are requests of every kind, each element that may be missing there and not, with content and without; the chapter's examples among them.
func requestRows() []requestRow {
	return []requestRow{
		// unbind
		{"30 05 02 01 03 42 00", api.Request{ID: 3, Kind: api.KindUnbind}},
		{"30 05 02 01 01 42 00", api.Request{ID: 1, Kind: api.KindUnbind}},
		{"30 08 02 04 7f ff ff ff 42 00", api.Request{ID: api.MaxID, Kind: api.KindUnbind}},
		// bind
		{"30 0c 02 01 01 60 07 02 01 03 04 00 80 00", api.Request{ID: 1, Kind: api.KindBind, Bind: api.Bind{Version: 3}}},
		{"30 10 02 01 01 60 0b 02 01 7f 04 02 c3 a9 80 02 ff 00", api.Request{ID: 1, Kind: api.KindBind, Bind: api.Bind{Version: 127, Name: "é", Password: "\xff\x00"}}},
		{"30 0e 02 01 01 60 09 02 01 01 04 00 a3 02 04 00", api.Request{ID: 1, Kind: api.KindBind, Bind: api.Bind{Version: 1, Method: api.MethodSASL}}},
		{"30 12 02 01 01 60 0d 02 01 03 04 00 a3 06 04 02 58 59 04 00", api.Request{ID: 1, Kind: api.KindBind, Bind: api.Bind{Version: 3, Method: api.MethodSASL, Mechanism: "XY", HasCredentials: true}}},
		{"30 14 02 01 01 60 0f 02 01 03 04 01 61 a3 07 04 02 58 59 04 01 ff", api.Request{ID: 1, Kind: api.KindBind, Bind: api.Bind{Version: 3, Name: "a", Method: api.MethodSASL, Mechanism: "XY", Credentials: "\xff", HasCredentials: true}}},
		// search
		{"30 25 02 01 02 63 20 04 00 0a 01 00 0a 01 00 02 01 00 02 01 00 01 01 00 87 0b 6f 62 6a 65 63 74 43 6c 61 73 73 30 00",
			api.Request{ID: 2, Kind: api.KindSearch, Search: api.Search{Filter: present("objectClass")}}},
		{"30 2c 02 01 02 63 27 04 03 6f 3d 78 0a 01 02 0a 01 03 02 04 7f ff ff ff 02 02 00 80 01 01 ff a2 05 a0 03 87 01 61 30 06 04 02 63 6e 04 00",
			api.Request{ID: 2, Kind: api.KindSearch, Search: api.Search{Base: "o=x", Scope: api.WholeSubtree, Deref: 3, SizeLimit: api.MaxID, TimeLimit: 128, TypesOnly: true,
				Filter:     api.Filter{{Depth: 1, Op: api.Not}, {Depth: 2, Op: api.And}, {Depth: 3, Op: api.Present, Desc: "a"}},
				Attributes: []string{"cn", ""}}}},
		{"30 1f 02 01 02 63 1a 04 00 0a 01 01 0a 01 01 02 01 7f 02 01 01 01 01 00 a3 05 04 01 61 04 00 30 00",
			api.Request{ID: 2, Kind: api.KindSearch, Search: api.Search{Scope: api.SingleLevel, Deref: 1, SizeLimit: 127, TimeLimit: 1, Filter: api.Filter{{Depth: 1, Op: api.Equality, Desc: "a"}}}}},
		// modify
		{"30 0c 02 01 06 66 07 04 03 6f 3d 78 30 00", api.Request{ID: 6, Kind: api.KindModify, Name: "o=x"}},
		{"30 26 02 01 06 66 21 04 03 6f 3d 78 30 1a 30 0c 0a 01 02 30 07 04 01 6f 31 02 04 00 30 0a 0a 01 01 30 05 04 01 70 31 00", api.Request{ID: 6, Kind: api.KindModify, Name: "o=x", Changes: []api.Change{{Kind: 2, Desc: "o", Values: []string{""}}, {Kind: 1, Desc: "p"}}}},
		{"30 1c 02 01 06 66 17 04 00 30 13 30 11 0a 01 00 30 0c 04 02 c3 a9 31 06 04 01 62 04 01 ff", api.Request{ID: 6, Kind: api.KindModify, Changes: []api.Change{{Kind: 0, Desc: "é", Values: []string{"b", "\xff"}}}}},
		// add
		{"30 0c 02 01 06 68 07 04 03 6f 3d 78 30 00", api.Request{ID: 6, Kind: api.KindAdd, Name: "o=x"}},
		{"30 15 02 01 06 68 10 04 03 6f 3d 78 30 09 30 07 04 01 6f 31 02 04 00", api.Request{ID: 6, Kind: api.KindAdd, Name: "o=x", Attributes: []api.Attr{{Desc: "o", Values: []string{""}}}}},
		{"30 1e 02 01 06 68 19 04 00 30 15 30 06 04 00 31 02 04 00 30 0b 04 01 6f 31 06 04 01 62 04 01 61", api.Request{ID: 6, Kind: api.KindAdd, Attributes: []api.Attr{{Values: []string{""}}, {Desc: "o", Values: []string{"b", "a"}}}}},
		// delete
		{"30 05 02 01 05 4a 00", api.Request{ID: 5, Kind: api.KindDelete}},
		{"30 08 02 01 05 4a 03 6f 3d 78", api.Request{ID: 5, Kind: api.KindDelete, Name: "o=x"}},
		{"30 14 02 01 05 4a 03 6f 3d 78 a0 0a 30 08 04 03 31 2e 32 01 01 ff", api.Request{ID: 5, Kind: api.KindDelete, Name: "o=x", Controls: []api.Control{{OID: "1.2", Critical: true}}}},
		// rename
		{"30 0c 02 01 07 6c 07 04 00 04 00 01 01 00", api.Request{ID: 7, Kind: api.KindRename}},
		{"30 14 02 01 07 6c 0f 04 03 6f 3d 78 04 03 6f 3d 79 01 01 ff 80 00", api.Request{ID: 7, Kind: api.KindRename, Name: "o=x", NewRDN: "o=y", DeleteOld: true, HasNewSuperior: true}},
		{"30 10 02 01 07 6c 0b 04 01 78 04 01 79 01 01 00 80 00", api.Request{ID: 7, Kind: api.KindRename, Name: "x", NewRDN: "y", HasNewSuperior: true}},
		{"30 11 02 01 07 6c 0c 04 01 78 04 01 79 01 01 ff 80 01 7a", api.Request{ID: 7, Kind: api.KindRename, Name: "x", NewRDN: "y", DeleteOld: true, NewSuperior: "z", HasNewSuperior: true}},
		// compare
		{"30 0d 02 01 08 6e 08 04 00 30 04 04 00 04 00", api.Request{ID: 8, Kind: api.KindCompare}},
		{"30 12 02 01 08 6e 0d 04 03 6f 3d 78 30 06 04 01 6f 04 01 ff", api.Request{ID: 8, Kind: api.KindCompare, Name: "o=x", Desc: "o", Value: "\xff"}},
		// abandon
		{"30 06 02 01 02 50 01 01", api.Request{ID: 2, Kind: api.KindAbandon, Abandon: 1}},
		{"30 06 02 01 02 50 01 00", api.Request{ID: 2, Kind: api.KindAbandon}},
		{"30 0a 02 02 00 80 50 04 7f ff ff ff", api.Request{ID: 128, Kind: api.KindAbandon, Abandon: api.MaxID}},
		// extended
		{"30 07 02 01 09 77 02 80 00", api.Request{ID: 9, Kind: api.KindExtended}},
		{"30 0c 02 01 09 77 07 80 03 31 2e 32 81 00", api.Request{ID: 9, Kind: api.KindExtended, Name: "1.2", HasValue: true}},
		{"30 0d 02 01 09 77 08 80 03 31 2e 32 81 01 ff", api.Request{ID: 9, Kind: api.KindExtended, Name: "1.2", Value: "\xff", HasValue: true}},
		// controls
		{"30 0b 02 01 03 42 00 a0 04 30 02 04 00", api.Request{ID: 3, Kind: api.KindUnbind, Controls: []api.Control{{}}}},
		{"30 28 02 01 03 42 00 a0 21 30 03 04 01 61 30 05 04 01 62 04 00 30 09 04 01 63 01 01 ff 04 01 ff 30 08 04 01 64 01 01 ff 04 00", api.Request{ID: 3, Kind: api.KindUnbind,
			Controls: []api.Control{{OID: "a"}, {OID: "b", HasValue: true}, {OID: "c", Critical: true, Value: "\xff", HasValue: true}, {OID: "d", Critical: true, HasValue: true}}}},
	}
}

// P13.1, P13.2: requests of every kind, both ways.
func TestRequests(t *testing.T) {
	for _, row := range requestRows() {
		s := fromHex(row.bytes)
		if r, err := DecodeRequest(s); err != api.OK || told(r) != told(row.request) {
			t.Errorf("DecodeRequest(%s) = %s, %d, want %s", row.bytes, told(r), err, told(row.request))
		}
		if got, err := EncodeRequest(row.request); err != api.OK || got != s {
			t.Errorf("EncodeRequest(%s) = %x, %d, want %s", told(row.request), got, err, row.bytes)
		}
		// The words tell the same.
		if !holdDecode(t, s) || !holdEncodeRequest(t, row.request) {
			t.Errorf("the words refuse %s", row.bytes)
		}
	}
}

// P13.1: more forms are read than written: longer lengths, any byte for true, a control's bool that is false, no control in A0.
func TestRequestsInOtherForms(t *testing.T) {
	unbind := api.Request{ID: 3, Kind: api.KindUnbind}
	deletion := func(c ...api.Control) api.Request {
		return api.Request{ID: 5, Kind: api.KindDelete, Name: "o=x", Controls: c}
	}
	for _, row := range []requestRow{
		{"30 81 05 02 01 03 42 00", unbind},
		{"30 84 00 00 00 05 02 01 03 42 00", unbind},
		{"30 82 00 08 02 82 00 01 03 42 81 00", unbind},
		{"30 83 00 00 0b 02 84 00 00 00 01 03 42 82 00 00", unbind},
		{"30 07 02 01 03 42 00 a0 00", unbind},
		{"30 0a 02 01 03 42 00 a0 83 00 00 00", unbind},
		{"30 09 02 01 05 4a 81 03 6f 3d 78", deletion()},
		{"30 14 02 01 05 4a 03 6f 3d 78 a0 0a 30 08 04 03 31 2e 32 01 01 00", deletion(api.Control{OID: "1.2"})},
		{"30 14 02 01 05 4a 03 6f 3d 78 a0 0a 30 08 04 03 31 2e 32 01 01 01", deletion(api.Control{OID: "1.2", Critical: true})},
		{"30 17 02 01 05 4a 03 6f 3d 78 a0 0d 30 0b 04 03 31 2e 32 01 01 00 04 01 78", deletion(api.Control{OID: "1.2", Value: "x", HasValue: true})},
		{"30 16 02 01 05 4a 03 6f 3d 78 a0 0c 30 0a 04 03 31 2e 32 01 01 80 04 00", deletion(api.Control{OID: "1.2", Critical: true, HasValue: true})},
		{"30 0c 02 01 07 6c 07 04 00 04 00 01 01 01", api.Request{ID: 7, Kind: api.KindRename, DeleteOld: true}},
		{"30 0e 02 01 07 6c 09 04 00 04 00 01 01 00 80 00", api.Request{ID: 7, Kind: api.KindRename, HasNewSuperior: true}},
		{"30 1b 02 01 02 63 16 04 00 0a 01 00 0a 01 00 02 01 00 02 01 00 01 01 2a 87 01 61 30 00", api.Request{ID: 2, Kind: api.KindSearch, Search: api.Search{TypesOnly: true, Filter: present("a")}}},
		{"30 1c 02 01 02 63 17 04 00 0a 01 00 0a 01 00 02 01 00 02 01 00 01 01 00 87 81 01 61 30 00", api.Request{ID: 2, Kind: api.KindSearch, Search: api.Search{Filter: present("a")}}},
		{"30 22 02 01 02 63 1d 04 00 0a 01 00 0a 01 00 02 01 00 02 01 00 01 01 00 a9 08 82 01 61 83 00 84 01 00 30 00", api.Request{ID: 2, Kind: api.KindSearch, Search: api.Search{Filter: api.Filter{{Depth: 1, Op: api.Extensible, Desc: "a"}}}}},
		{"30 22 02 01 02 63 1d 04 00 0a 01 00 0a 01 00 02 01 00 02 01 00 01 01 00 a9 08 82 01 61 83 00 84 01 07 30 00", api.Request{ID: 2, Kind: api.KindSearch, Search: api.Search{Filter: api.Filter{{Depth: 1, Op: api.Extensible, Desc: "a", DNAttrs: true}}}}},
	} {
		s := fromHex(row.bytes)
		r, err := DecodeRequest(s)
		if err != api.OK || told(r) != told(row.request) {
			t.Errorf("DecodeRequest(%s) = %s, %d, want %s", row.bytes, told(r), err, told(row.request))
		}
		holdDecode(t, s)
	}
}

// holdRefusedRequests holds pictures of elements that are whole, but no request's.
func holdRefusedRequests(t *testing.T, pictures ...string) {
	t.Helper()
	for _, one := range pictures {
		s := drawn(one)
		if _, err, _ := ber.Tree(s); err != api.OK {
			t.Errorf("%s is no whole element: %d", one, err)
		}
		holdRefusedRequest(t, s)
	}
}

func holdRefusedRequest(t *testing.T, s string) {
	t.Helper()
	if r, err := DecodeRequest(s); err != api.ErrMessage || told(r) != "{}" {
		t.Errorf("DecodeRequest(%x) = %s, %d, want ErrMessage", s, told(r), err)
	}
	if fits(requestForm, s) {
		t.Errorf("the words take %x", s)
	}
}

// within are requests with these operations.
func within(operations ...string) []string {
	var out []string
	for _, one := range operations {
		out = append(out, "30{02<03>"+one+"}")
	}
	return out
}

// P13.1: the chapter's examples of what is refused, and what is no whole element.
func TestRequestsRefused(t *testing.T) {
	for _, s := range []string{
		"30 05 02 01 00 42 00", "30 06 02 02 00 03 42 00", "30 07 02 01 03 42 00 05 00", "30 06 02 01 03 42 01 00", "30 0c 02 01 02 65 07 0a 01 00 04 00 04 00",
		"30 08 02 01 05 4a 03 6f 3d ff", "30 0c 02 01 01 60 07 02 01 00 04 00 80 00", "30 00",
		"", "30", "30 05", "30 05 02 01 03 42", "30 06 02 01 03 42 00", "30 05 02 01 03 42 00 00", "30 05 02 01 03 42 00 30 00", "30 04 02 01 03 42", "30 05 02 01 03 42 01", "30 05 02 03 03 42 00",
		"30 80 02 01 03 42 00 00 00", "30 85 00 00 00 00 05 02 01 03 42 00", "3f 05 02 01 03 42 00", "30 07 02 01 03 42 80 00 00", "30 08 02 01 03 4a 03 6f 3d", "30 07 02 01 03 42 00 a0 00 00", "30 07 02 01 03 42 00 a0 01",
	} {
		holdRefusedRequest(t, fromHex(s))
	}
}

// P13.1: what is no message, ids that are none, operations that are none.
func TestRequestsRefusedAround(t *testing.T) {
	holdRefusedRequests(t,
		"31{02<03>42<>}", "10<02010342 00>", "70{02<03>42<>}", "b0{02<03>42<>}", "f0{02<03>42<>}", "02<03>", "42<>", "a0{02<03>42<>}",
		"30{}", "30{02<03>}", "30{42<>}", "30{42<>02<03>}", "30{02<03>02<03>42<>}", "30{02<03>42<>42<>}", "30{02<03>42<>05<>}", "30{05<>02<03>42<>}", "30{30{02<03>42<>}}",
		"30{02<>42<>}", "30{02<00>42<>}", "30{02<ff>42<>}", "30{02<80>42<>}", "30{02<0003>42<>}", "30{02<ff7f>42<>}", "30{02<ffff>42<>}", "30{02<007fffffff>42<>}", "30{02<0080000000>42<>}", "30{02<80000000>42<>}", "30{02<0100000003>42<>}",
		"30{02<0000000000000003>42<>}", "30{02<7fffffffffffffff>42<>}", "30{02<8000000000000000>42<>}", "30{02<010000000000000003>42<>}", "30{0a<03>42<>}", "30{04<03>42<>}", "30{22{}42<>}", "30{82<03>42<>}", "30{42<03>42<>}", "30{01<03>42<>}")
	holdRefusedRequests(t, within("62{}", "02<>", "82<>", "c2<>", "40<>", "41<>", "43<>", "44<>", "57<>", "70{}", "6a{}", "30{}", "a0{}", "a0{}42<>", "42<00>", "61{0a<00>04<>04<>}", "72{}", "7e{}", "5e<>")...)
}

// P13.1: operations with something missing, doubled, in another order, out of its bounds, behind the last one.
func TestOperationsRefused(t *testing.T) {
	holdRefusedRequests(t, within( // bind
		"60{}", "60{02<03>}", "60{02<03>04<>}", "60{04<>80<>}", "60{02<03>80<>}", "60{02<00>04<>80<>}", "60{02<0080>04<>80<>}", "60{02<ff>04<>80<>}", "60{02<>04<>80<>}", "60{02<0003>04<>80<>}", "60{0a<03>04<>80<>}", "60{02<03>04<ff>80<>}", "60{02<03>0c<>80<>}", "60{02<03>24{}80<>}",
		"60{02<03>04<>81<>}", "60{02<03>04<>a0{}}", "60{02<03>04<>83<>}", "60{02<03>04<>04<>}", "60{02<03>04<>80<>80<>}", "60{02<03>04<>80<>a3{04<>}}", "60{02<03>04<>a3{04<>}80<>}", "60{02<03>04<>80<>05<>}", "60{04<>02<03>80<>}", "60{02<03>02<03>04<>80<>}", "60{02<03>04<>04<>80<>}", "40<0201030400 8000>",
		"60{02<03>04<>a3{}}", "60{02<03>04<>a3{04<ff>}}", "60{02<03>04<>a3{04<>04<>04<>}}", "60{02<03>04<>a3{04<>05<>}}", "60{02<03>04<>a3{05<>}}", "60{02<03>04<>a3{04<>80<>}}", "60{02<03>04<>a3{04<>24{}}}", "60{02<03>04<>a3{80<>}}",
	)...)
	holdRefusedRequests(t, within( // search
		"63{}", "63{04<>0a<00>0a<00>02<00>02<00>01<00>87<61>}", "63{04<>0a<00>0a<00>02<00>02<00>01<00>30{}}", "63{04<>0a<00>0a<00>02<00>02<00>87<61>30{}}", "63{04<>0a<00>0a<00>02<00>01<00>87<61>30{}}", "63{04<>0a<00>02<00>02<00>01<00>87<61>30{}}", "63{0a<00>0a<00>02<00>02<00>01<00>87<61>30{}}",
		"63{04<>0a<03>0a<00>02<00>02<00>01<00>87<61>30{}}", "63{04<>0a<ff>0a<00>02<00>02<00>01<00>87<61>30{}}", "63{04<>0a<00>0a<04>02<00>02<00>01<00>87<61>30{}}", "63{04<>0a<00>0a<ff>02<00>02<00>01<00>87<61>30{}}", "63{04<>0a<0100>0a<00>02<00>02<00>01<00>87<61>30{}}",
		"63{04<>0a<00>0a<00>02<ff>02<00>01<00>87<61>30{}}", "63{04<>0a<00>0a<00>02<00>02<ff>01<00>87<61>30{}}", "63{04<>0a<00>0a<00>02<0080000000>02<00>01<00>87<61>30{}}", "63{04<>0a<00>0a<00>02<00>02<0080000000>01<00>87<61>30{}}", "63{04<>0a<00>0a<00>02<0001>02<00>01<00>87<61>30{}}", "63{04<>0a<0000>0a<00>02<00>02<00>01<00>87<61>30{}}", "63{04<>0a<>0a<00>02<00>02<00>01<00>87<61>30{}}",
		"63{04<>02<00>0a<00>02<00>02<00>01<00>87<61>30{}}", "63{04<>0a<00>0a<00>0a<00>02<00>01<00>87<61>30{}}", "63{04<>0a<00>0a<00>02<00>02<00>01<>87<61>30{}}", "63{04<>0a<00>0a<00>02<00>02<00>01<ffff>87<61>30{}}", "63{04<>0a<00>0a<00>02<00>02<00>02<00>87<61>30{}}",
		"63{04<>0a<00>0a<00>02<00>02<00>01<00>87<ff>30{}}", "63{04<>0a<00>0a<00>02<00>02<00>01<00>a2{}30{}}", "63{04<>0a<00>0a<00>02<00>02<00>01<00>04<>30{}}", "63{04<>0a<00>0a<00>02<00>02<00>01<00>aa{}30{}}", "63{04<>0a<00>0a<00>02<00>02<00>01<00>30{}30{}}", "63{04<>0a<00>0a<00>02<00>02<00>01<00>87<61>87<61>30{}}", "63{04<>0a<00>0a<00>02<00>02<00>01<00>30{}87<61>}", "63{04<>0a<00>0a<00>02<00>02<00>87<61>01<00>30{}}",
		"63{04<>0a<00>0a<00>02<00>02<00>01<00>87<61>30{04<ff>}}", "63{04<>0a<00>0a<00>02<00>02<00>01<00>87<61>30{04<>05<>}}", "63{04<>0a<00>0a<00>02<00>02<00>01<00>87<61>31{}}", "63{04<>0a<00>0a<00>02<00>02<00>01<00>87<61>10<>}", "63{04<>0a<00>0a<00>02<00>02<00>01<00>87<61>30{}30{}}", "63{04<>0a<00>0a<00>02<00>02<00>01<00>87<61>30{}05<>}", "63{04<ff>0a<00>0a<00>02<00>02<00>01<00>87<61>30{}}", "63{04<>0a<00>0a<00>02<00>02<00>01<00>87<61>30{30{}}}",
	)...)
	holdRefusedRequests(t, within( // modify
		"66{}", "66{04<>}", "66{30{}}", "66{04<ff>30{}}", "66{04<>31{}}", "66{04<>30{}30{}}", "66{30{}04<>}", "66{04<>04<>30{}}", "66{04<>30{30{}}}", "66{04<>30{30{0a<00>}}}", "66{04<>30{30{0a<00>30{}}}}", "66{04<>30{30{0a<00>30{04<>}}}}", "66{04<>30{30{0a<00>30{31{}}}}}", "66{04<>30{30{30{04<>31{}}}}}",
		"66{04<>30{30{0a<03>30{04<>31{}}}}}", "66{04<>30{30{0a<ff>30{04<>31{}}}}}", "66{04<>30{30{02<00>30{04<>31{}}}}}", "66{04<>30{30{0a<0000>30{04<>31{}}}}}", "66{04<>30{30{0a<00>30{04<ff>31{}}}}}", "66{04<>30{30{0a<00>30{04<>30{}}}}}", "66{04<>30{30{0a<00>30{04<>31{}31{}}}}}", "66{04<>30{30{0a<00>30{04<>31{}}05<>}}}", "66{04<>30{30{0a<00>30{04<>31{}05<>}}}}", "66{04<>30{30{0a<00>30{04<>31{05<>}}}}}", "66{04<>30{30{0a<00>30{04<>31{24{}}}}}}",
		"66{04<>30{31{0a<00>30{04<>31{}}}}}", "66{04<>30{30{0a<00>31{04<>31{}}}}}", "66{04<>30{30{0a<00>04<>31{}}}}", "66{04<>30{30{30{04<>31{}}0a<00>}}}", "66{04<>30{0a<00>30{04<>31{}}}}", "66{04<>30{30{0a<00>30{31{}04<>}}}}", "66{04<>30{30{0a<00>30{04<>31{}}}05<>}}", "66{04<>30{30{0a<00>30{04<>31{}}}}05<>}", "66{04<>30{30{0a<00>30{04<>31{}}30{04<>31{}}}}}",
	)...)
	holdRefusedRequests(t, within( // add
		"68{}", "68{04<>}", "68{30{}}", "68{04<ff>30{}}", "68{04<>31{}}", "68{04<>30{}05<>}", "68{04<>30{30{}}}", "68{04<>30{30{04<>}}}", "68{04<>30{30{04<6f>31{}}}}", "68{04<>30{30{04<ff>31{04<>}}}}", "68{04<>30{30{04<>30{04<>}}}}", "68{04<>30{31{04<>31{04<>}}}}", "68{04<>30{30{04<>31{04<>}05<>}}}", "68{04<>30{30{04<>31{04<>}}30{04<>31{}}}}", "68{04<>30{30{31{04<>}04<>}}}", "68{04<>30{30{04<>31{05<>}}}}", "68{04<>30{04<>31{04<>}}}", "68{04<>30{30{04<>04<>}}}",
	)...)
	holdRefusedRequests(t, within( // delete, abandon
		"6a{}", "6a{04<>}", "4a<80>", "4a<c3>", "4a<6f3dff>", "4a<eda080>", "4a<>4a<>", "50<>", "50<ff>", "50<80>", "50<0001>", "50<0000>", "50<0080000000>", "50<80000000>", "50<000000000000000001>", "50<0000000000000001>", "50<0100000000>", "70{02<01>}", "50<01>50<01>",
	)...)
	holdRefusedRequests(t, within( // rename
		"6c{}", "6c{04<>04<>}", "6c{04<>01<00>}", "6c{04<>04<>01<>}", "6c{04<>04<>01<0000>}", "6c{04<ff>04<>01<00>}", "6c{04<>04<ff>01<00>}", "6c{04<>04<>01<00>80<ff>}", "6c{04<>04<>01<00>81<>}", "6c{04<>04<>01<00>04<>}", "6c{04<>04<>01<00>80<>80<>}", "6c{04<>04<>80<>01<00>}", "6c{04<>04<>01<00>a0{}}", "6c{04<>04<>01<00>01<00>}", "6c{04<>04<>04<>01<00>}", "6c{04<>04<>01<00>80<>05<>}", "6c{01<00>04<>04<>}", "6c{04<>04<>80<>}",
	)...)
	holdRefusedRequests(t, within( // compare
		"6e{}", "6e{04<>}", "6e{04<>30{}}", "6e{04<>30{04<>}}", "6e{04<>30{04<>04<>04<>}}", "6e{04<ff>30{04<>04<>}}", "6e{04<>30{04<ff>04<>}}", "6e{30{04<>04<>}04<>}", "6e{04<>30{04<>04<>}05<>}", "6e{04<>30{04<>04<>05<>}}", "6e{04<>31{04<>04<>}}", "6e{04<>04<>04<>}", "6e{04<>30{04<>05<>}}", "6e{04<>30{04<>04<>}30{04<>04<>}}",
	)...)
	holdRefusedRequests(t, within( // extended
		"77{}", "77{81<>}", "77{80<ff>}", "77{81<>80<>}", "77{80<>80<>}", "77{80<>81<>81<>}", "77{80<>82<>}", "77{04<>}", "77{80<>04<>}", "77{80<>a1{}}", "77{a0{}}", "57<8000>", "77{80<>81<>05<>}",
	)...)
	holdRefusedRequests(t, within( // controls
		"42<>80<>", "42<>a1{}", "42<>30{}", "42<>a0{}a0{}", "42<>a0{}05<>", "42<>a0{05<>}", "42<>a0{04<>}", "42<>a0{30{}}", "42<>a0{31{04<>}}", "42<>a0{30{05<>}}", "42<>a0{30{04<ff>}}", "42<>a0{30{04<>04<>01<ff>}}", "42<>a0{30{04<>01<>}}", "42<>a0{30{04<>01<ffff>}}", "42<>a0{30{04<>01<ff>01<ff>}}", "42<>a0{30{04<>04<>04<>}}", "42<>a0{30{01<ff>04<>}}", "42<>a0{30{01<ff>}}", "42<>a0{30{04<>05<>}}", "42<>a0{30{04<>01<ff>05<>}}", "42<>a0{30{04<>01<ff>04<>05<>}}", "42<>a0{30{04<>}05<>}", "42<>a0{30{04<>24{}}}", "a0{30{04<>}}42<>",
	)...)
}

// P13.2: requests that no text means.
func TestRequestsThatCannotBeWritten(t *testing.T) {
	value := []string{""}
	for _, r := range []api.Request{
		{}, {Kind: api.KindUnbind}, {ID: -1, Kind: api.KindUnbind}, {ID: api.MaxID + 1, Kind: api.KindUnbind}, {ID: 1<<32 + 1, Kind: api.KindUnbind},
		{ID: 1, Kind: 10}, {ID: 1, Kind: -1}, {ID: 1, Kind: 1 << 40}, {ID: 1, Kind: -1 << 63},
		{ID: 1, Kind: api.KindUnbind, Name: "x"},
		{ID: 1, Kind: api.KindBind}, {ID: 1, Kind: api.KindBind, Bind: api.Bind{Version: 128}}, {ID: 1, Kind: api.KindBind, Bind: api.Bind{Version: -3}}, {ID: 1, Kind: api.KindBind, Bind: api.Bind{Version: 1<<32 + 3}},
		{ID: 1, Kind: api.KindBind, Bind: api.Bind{Version: 3, Method: 2}}, {ID: 1, Kind: api.KindBind, Bind: api.Bind{Version: 3, Method: -1}}, {ID: 1, Kind: api.KindBind, Bind: api.Bind{Version: 3, Name: "\xff"}},
		{ID: 1, Kind: api.KindBind, Bind: api.Bind{Version: 3, Mechanism: "x"}}, {ID: 1, Kind: api.KindBind, Bind: api.Bind{Version: 3, Credentials: "x"}}, {ID: 1, Kind: api.KindBind, Bind: api.Bind{Version: 3, HasCredentials: true}}, {ID: 1, Kind: api.KindBind, Bind: api.Bind{Version: 3, Credentials: "x", HasCredentials: true}},
		{ID: 1, Kind: api.KindBind, Bind: api.Bind{Version: 3, Method: api.MethodSASL, Password: "x"}}, {ID: 1, Kind: api.KindBind, Bind: api.Bind{Version: 3, Method: api.MethodSASL, Credentials: "x"}}, {ID: 1, Kind: api.KindBind, Bind: api.Bind{Version: 3, Method: api.MethodSASL, Mechanism: "\xff"}},
		{ID: 1, Kind: api.KindSearch}, {ID: 1, Kind: api.KindSearch, Search: api.Search{Filter: api.Filter{{Depth: 1, Op: api.Not}}}}, {ID: 1, Kind: api.KindSearch, Search: api.Search{Filter: present("\xff")}}, {ID: 1, Kind: api.KindSearch, Search: api.Search{Base: "\xff", Filter: present("a")}},
		{ID: 1, Kind: api.KindSearch, Search: api.Search{Scope: 3, Filter: present("a")}}, {ID: 1, Kind: api.KindSearch, Search: api.Search{Scope: -1, Filter: present("a")}}, {ID: 1, Kind: api.KindSearch, Search: api.Search{Deref: 4, Filter: present("a")}}, {ID: 1, Kind: api.KindSearch, Search: api.Search{Deref: -1, Filter: present("a")}},
		{ID: 1, Kind: api.KindSearch, Search: api.Search{SizeLimit: -1, Filter: present("a")}}, {ID: 1, Kind: api.KindSearch, Search: api.Search{SizeLimit: api.MaxID + 1, Filter: present("a")}}, {ID: 1, Kind: api.KindSearch, Search: api.Search{TimeLimit: -1, Filter: present("a")}}, {ID: 1, Kind: api.KindSearch, Search: api.Search{TimeLimit: api.MaxID + 1, Filter: present("a")}},
		{ID: 1, Kind: api.KindSearch, Search: api.Search{Filter: present("a"), Attributes: []string{"cn", "\xff"}}},
		{ID: 1, Kind: api.KindModify, Name: "\xff"}, {ID: 1, Kind: api.KindModify, Changes: []api.Change{{Kind: 3}}}, {ID: 1, Kind: api.KindModify, Changes: []api.Change{{Kind: -1}}}, {ID: 1, Kind: api.KindModify, Changes: []api.Change{{}, {Desc: "\xff"}}},
		{ID: 1, Kind: api.KindAdd, Name: "\xff"}, {ID: 1, Kind: api.KindAdd, Name: "o=x", Attributes: []api.Attr{{Desc: "o"}}}, {ID: 1, Kind: api.KindAdd, Attributes: []api.Attr{{Desc: "o", Values: []string{}}}}, {ID: 1, Kind: api.KindAdd, Attributes: []api.Attr{{Values: value}, {Desc: "o", Canon: "o", Values: value}}}, {ID: 1, Kind: api.KindAdd, Attributes: []api.Attr{{Desc: "\xff", Values: value}}},
		{ID: 1, Kind: api.KindDelete, Name: "\xff"},
		{ID: 1, Kind: api.KindRename, Name: "\xff"}, {ID: 1, Kind: api.KindRename, NewRDN: "\xff"}, {ID: 1, Kind: api.KindRename, NewSuperior: "\xff", HasNewSuperior: true}, {ID: 1, Kind: api.KindRename, NewSuperior: "x"},
		{ID: 1, Kind: api.KindCompare, Name: "\xff"}, {ID: 1, Kind: api.KindCompare, Desc: "\xff"}, {ID: 1, Kind: api.KindCompare, HasValue: true},
		{ID: 1, Kind: api.KindAbandon, Abandon: -1}, {ID: 1, Kind: api.KindAbandon, Abandon: api.MaxID + 1},
		{ID: 1, Kind: api.KindExtended, Name: "1.2", Value: "x"}, {ID: 1, Kind: api.KindExtended, Name: "\xff"},
		{ID: 1, Kind: api.KindUnbind, Controls: []api.Control{{OID: "\xff"}}}, {ID: 1, Kind: api.KindUnbind, Controls: []api.Control{{}, {OID: "1.2", Value: "x"}}},
	} {
		if s, err := EncodeRequest(r); err != api.ErrCraft || s != "" {
			t.Errorf("EncodeRequest(%s) = %x, %d, want ErrCraft", told(r), s, err)
		}
		if _, err := slowEncodeRequest(r); err != api.ErrCraft {
			t.Errorf("the words write %s", told(r))
		}
	}
}
