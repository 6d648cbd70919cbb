package msg

import (
	"fmt"
	"math/rand"
	"reflect"
	"slices"
	"strings"
	"testing"

	"roster/api"
	"roster/ber"
	"roster/filter"
)

// texts are the shortest texts of all rows.
func texts() []string {
	var out []string
	for _, row := range requestRows() {
		out = append(out, fromHex(row.bytes))
	}
	for _, row := range replyRows() {
		out = append(out, fromHex(row.bytes))
	}
	return out
}

// P13.1, P13.3: one byte changed to every other, left out, put in; every front, and what stands behind.
func TestEveryByte(t *testing.T) {
	for _, s := range texts() {
		for at := range len(s) {
			holdDecode(t, s[:at])
			holdDecode(t, s[:at]+s[at+1:])
			for c := range 256 {
				one := string([]byte{byte(c)})
				holdDecode(t, s[:at]+one+s[at+1:])
				if c%16 == 0 {
					holdDecode(t, s[:at]+one+s[at:])
				}
			}
		}
		holdDecode(t, s+"\x00")
		holdDecode(t, s+s)
	}
}

// changed changes one element, or its place.
func changed(r *rand.Rand, elements []api.Node) []api.Node {
	out := slices.Clone(elements)
	i := r.Intn(len(out))
	switch r.Intn(9) {
	case 0:
		return slices.Delete(out, i, end(out, i))
	case 1:
		return slices.Insert(out, i, slices.Clone(out[i:end(out, i)])...)
	case 2: // the next one on the same level first
		if j := end(out, i); j < len(out) && out[j].Depth == out[i].Depth {
			return slices.Concat(out[:i], out[j:end(out, j)], out[i:j], out[end(out, j):])
		}
	case 3:
		out[i].Tag = pick(r, 0, 1, 2, 3, 4, 5, 10, 16, 17, r.Intn(31))
	case 4:
		out[i].Class = api.Class(r.Intn(4))
	case 5:
		out[i].Made, out[i].Body = !out[i].Made, ""
	case 6:
		if !out[i].Made {
			out[i].Body = pick(r, "", "\xff", "a", "\x00", "\x03", "\x00\x80", "\x7f\xff\xff\xff", "\x00\x80\x00\x00\x00", "\xc3\xa9", "\x01\x01")
		}
	case 7:
		out[i].Depth += r.Intn(3) - 1
	case 8:
		return slices.Insert(out, i+1, api.Node{Depth: out[i].Depth + r.Intn(2), Class: pick(r, api.Context, api.Universal), Made: someBool(r), Tag: pick(r, 0, 1, 4, 10, 16)})
	}
	return out
}

// stretched are the bytes of a tree with lengths in any form.
func stretched(r *rand.Rand, nodes []api.Node) string {
	out := ""
	for i := 0; i < len(nodes); i = end(nodes, i) {
		content := nodes[i].Body
		if nodes[i].Made {
			content = stretched(r, nodes[i+1:end(nodes, i)])
		}
		n := len(content)
		length := []byte{byte(n >> 24), byte(n >> 16), byte(n >> 8), byte(n)}
		for len(length) > 1 && length[0] == 0 && r.Intn(3) > 0 {
			length = length[1:]
		}
		if n > 127 || r.Intn(3) == 0 {
			length = append([]byte{byte(0x80 + len(length))}, length...)
		} else {
			length = length[len(length)-1:]
		}
		out += string([]byte{firstOf(nodes[i])}) + string(length) + content
	}
	return out
}

// someMessage is a text of the grammar.
func someMessage(r *rand.Rand) string {
	s, err := slowEncodeRequest(someRequest(r))
	if someBool(r) {
		s, err = slowEncodeReply(someReply(r))
	}
	if err != api.OK {
		panic(err)
	}
	return s
}

// P13.1, P13.3, P13.4: elements in another order, doubled, missing, of another first byte or content; lengths in all forms.
func TestDecodeAgainstWords(t *testing.T) {
	r := rand.New(rand.NewSource(131))
	taken := 0
	for range 20000 {
		s := someMessage(r)
		if r.Intn(3) == 0 {
			s = pick(r, texts()...)
		}
		elements, _, _ := ber.Tree(s)
		for range r.Intn(3) {
			if len(elements) > 0 {
				elements = changed(r, elements)
			}
		}
		if _, err, _ := ber.Write(elements); err != api.OK {
			continue
		}
		if holdDecode(t, stretched(r, elements)) {
			taken++
		}
	}
	if taken < 5000 || taken > 15000 {
		t.Errorf("%d of the messages mean something", taken)
	}
}

// P13.1, P13.3: random bytes.
func TestDecodeOfAnyBytes(t *testing.T) {
	r := rand.New(rand.NewSource(132))
	for range 5000 {
		holdDecode(t, someBytes(r, 12))
		first := pick[byte](r, 0x60, 0x42, 0x63, 0x66, 0x68, 0x4a, 0x6c, 0x6e, 0x50, 0x77, 0x61, 0x64, 0x65, 0x78)
		holdDecode(t, el(0x30, el(0x02, "\x01"), el(first, someBytes(r, 4))))
		holdDecode(t, el(0x30, el(0x02, "\x01"), el(first, el(0x04, someBytes(r, 2)), el(0x30, someBytes(r, 3)))))
	}
}

// P13.2, P13.3, P13.4: random requests and replies, as they are and with something changed.
func TestEncodeAgainstWords(t *testing.T) {
	r := rand.New(rand.NewSource(133))
	refused := 0
	for range 10000 {
		q, p := someRequest(r), someReply(r)
		if !holdEncodeRequest(t, q) || !holdEncodeReply(t, p) {
			t.Fatalf("%s or %s can't be written", told(q), told(p))
		}
		spoilOne(r, &q)
		spoilOne(r, &p)
		if !holdEncodeRequest(t, q) {
			refused++
		}
		if !holdEncodeReply(t, p) {
			refused++
		}
	}
	if refused < 5000 || refused > 15000 {
		t.Errorf("%d of 20000 can't be written", refused)
	}
}

// setter is a number or a text of a message, by a name for the test's words.
type setter struct {
	name        string
	least, most int
	request     func(n int) api.Request
	reply       func(n int) api.Reply
}

// P13.1 to P13.3: each number at its bounds and beyond them, both ways.
func TestBounds(t *testing.T) {
	search := func(s api.Search) api.Request {
		s.Filter = present("a")
		return api.Request{ID: 1, Kind: api.KindSearch, Search: s}
	}
	for _, x := range []setter{
		{"id", 1, api.MaxID, func(n int) api.Request { return api.Request{ID: n, Kind: api.KindUnbind} }, nil},
		{"version", 1, 127, func(n int) api.Request {
			return api.Request{ID: 1, Kind: api.KindBind, Bind: api.Bind{Version: n}}
		}, nil},
		{"version with a mechanism", 1, 127, func(n int) api.Request {
			return api.Request{ID: 1, Kind: api.KindBind, Bind: api.Bind{Version: n, Method: api.MethodSASL}}
		}, nil},
		{"scope", 0, 2, func(n int) api.Request { return search(api.Search{Scope: api.Scope(n)}) }, nil},
		{"deref", 0, 3, func(n int) api.Request { return search(api.Search{Deref: n}) }, nil},
		{"size limit", 0, api.MaxID, func(n int) api.Request { return search(api.Search{SizeLimit: n}) }, nil},
		{"time limit", 0, api.MaxID, func(n int) api.Request { return search(api.Search{TimeLimit: n}) }, nil},
		{"change", 0, 2, func(n int) api.Request {
			return api.Request{ID: 1, Kind: api.KindModify, Changes: []api.Change{{Kind: n}}}
		}, nil},
		{"abandoned id", 0, api.MaxID, func(n int) api.Request { return api.Request{ID: 1, Kind: api.KindAbandon, Abandon: n} }, nil},
		{"id of a done", 1, api.MaxID, nil, func(n int) api.Reply { return api.Reply{ID: n, Kind: api.ReplyDone} }},
		{"id of an entry", 1, api.MaxID, nil, func(n int) api.Reply { return api.Reply{ID: n, Kind: api.ReplyEntry} }},
		{"id of an extended", 0, api.MaxID, nil, func(n int) api.Reply { return api.Reply{ID: n, Kind: api.ReplyExtended} }},
		{"code", 0, 127, nil, func(n int) api.Reply {
			return api.Reply{ID: 1, Kind: api.ReplyAdd, Result: api.Result{Code: api.Code(n)}}
		}},
		{"code of an extended", 0, 127, nil, func(n int) api.Reply {
			return api.Reply{ID: 1, Kind: api.ReplyExtended, Result: api.Result{Code: api.Code(n)}}
		}},
	} {
		for _, n := range []int{-1 << 63, -1 << 31, -256, -129, -128, -127, -1, 0, 1, 2, 3, 4, 5, 126, 127, 128, 129, 255, 256, 32767, 32768, api.MaxID - 1, api.MaxID, api.MaxID + 1, 1<<32 - 1, 1 << 32, 1<<32 + 1, 1<<63 - 1} {
			holdBound(t, x, n)
		}
	}
}

func holdBound(t *testing.T, x setter, n int) {
	t.Helper()
	inside := x.least <= n && n <= x.most
	var s string
	var written, read bool
	if x.request != nil {
		q := x.request(n)
		written = holdEncodeRequest(t, q)
		s = el(0x30, el(0x02, slowInt(q.ID)), slowOperation(q))
		read = holdDecodeRequest(t, s)
	} else {
		p := x.reply(n)
		written = holdEncodeReply(t, p)
		s = el(0x30, el(0x02, slowInt(p.ID)), slowAnswer(p))
		read = holdDecodeReply(t, s)
	}
	if written != inside || read != inside {
		t.Errorf("%s %d is written: %v, and %x read: %v", x.name, n, written, s, read)
	}
}

// full are a request of each kind and method, and a reply of each kind, in which every field that the kind has is filled.
func full() ([]api.Request, []api.Reply) {
	controls := []api.Control{{OID: "1.2", Critical: true, Value: "v", HasValue: true}}
	attrs := []api.Attr{{Desc: "o", Values: []string{"a", "b"}}, {Desc: "p", Values: []string{"c"}}}
	requests := []api.Request{
		{ID: 1, Kind: api.KindBind, Bind: api.Bind{Version: 3, Name: "n", Password: "p"}},
		{ID: 1, Kind: api.KindBind, Bind: api.Bind{Version: 3, Name: "n", Method: api.MethodSASL, Mechanism: "m", Credentials: "c", HasCredentials: true}},
		{ID: 1, Kind: api.KindUnbind},
		{ID: 1, Kind: api.KindSearch, Search: api.Search{Base: "b", Scope: 1, Deref: 1, SizeLimit: 1, TimeLimit: 1, TypesOnly: true, Filter: api.Filter{{Depth: 1, Op: api.Substrings, Desc: "d", Parts: api.Pattern{Initial: "i", Any: []string{"x"}, Final: "f"}}}, Attributes: []string{"a"}}},
		{ID: 1, Kind: api.KindModify, Name: "n", Changes: []api.Change{{Kind: 1, Desc: "d", Values: []string{"v"}}}},
		{ID: 1, Kind: api.KindAdd, Name: "n", Attributes: attrs},
		{ID: 1, Kind: api.KindDelete, Name: "n"},
		{ID: 1, Kind: api.KindRename, Name: "n", NewRDN: "r", DeleteOld: true, NewSuperior: "s", HasNewSuperior: true},
		{ID: 1, Kind: api.KindCompare, Name: "n", Desc: "d", Value: "v"},
		{ID: 1, Kind: api.KindAbandon, Abandon: 1},
		{ID: 1, Kind: api.KindExtended, Name: "n", Value: "v", HasValue: true},
	}
	var replies []api.Reply
	for kind := api.ReplyBind; kind <= api.ReplyExtended; kind++ {
		p := api.Reply{ID: 1, Kind: kind, Result: api.Result{Code: 1, Matched: "m", Text: "t"}}
		switch kind {
		case api.ReplyEntry:
			p.Result, p.Name, p.Attributes = api.Result{}, "n", attrs
		case api.ReplyExtended:
			p.OID, p.HasOID = "o", true
		}
		replies = append(replies, p)
	}
	for i := range requests {
		requests[i].Controls = controls
	}
	for i := range replies {
		replies[i].Controls = controls
	}
	return requests, replies
}

// anyBytesIn are the texts that need not be UTF-8, by their paths.
var anyBytesIn = []string{
	"Bind.Password", "Bind.Credentials", "Search.Filter.Parts.Initial", "Search.Filter.Parts.Any", "Search.Filter.Parts.Final",
	"Changes.Values", "Attributes.Values", "Value", "Controls.Value",
}

// texted calls with every text in v that isn't empty, and its path.
func texted(v reflect.Value, path string, call func(path string, text reflect.Value)) {
	switch v.Kind() {
	case reflect.Struct:
		for i := range v.NumField() {
			texted(v.Field(i), strings.TrimPrefix(path+"."+v.Type().Field(i).Name, "."), call)
		}
	case reflect.Slice:
		for i := range v.Len() {
			texted(v.Index(i), path, call)
		}
	case reflect.String:
		if v.String() != "" {
			call(path, v)
		}
	}
}

// P13.1 to P13.3: what the grammar calls utf must be UTF-8, both ways; what it calls bytes need not be.
func TestUTF8(t *testing.T) {
	requests, replies := full()
	seen := map[string]int{}
	hold := func(path, bad string, text string, take, write bool) {
		t.Helper()
		seen[path]++
		if want := slices.Contains(anyBytesIn, path); take != want || write != want {
			t.Errorf("%s %q is read: %v, written: %v (%x)", path, bad, take, write, text)
		}
	}
	for _, bad := range []string{"\xff", "\x80", "a\xc3", "\xed\xa0\x80", "\xc0\x80", "\xf4\x90\x80\x80"} {
		for i := range requests {
			q := &requests[i]
			texted(reflect.ValueOf(q).Elem(), "", func(path string, text reflect.Value) {
				before := text.String()
				text.SetString(bad)
				_, err := EncodeRequest(*q)
				s := el(0x30, el(0x02, slowInt(q.ID)), slowOperation(*q), slowControls(q.Controls))
				hold(path, bad, s, holdDecodeRequest(t, s), err == api.OK)
				holdEncodeRequest(t, *q)
				text.SetString(before)
			})
		}
		for i := range replies {
			p := &replies[i]
			texted(reflect.ValueOf(p).Elem(), "", func(path string, text reflect.Value) {
				before := text.String()
				text.SetString(bad)
				_, err := EncodeReply(*p)
				s := el(0x30, el(0x02, slowInt(p.ID)), slowAnswer(*p), slowControls(p.Controls))
				hold(path, bad, s, holdDecodeReply(t, s), err == api.OK)
				holdEncodeReply(t, *p)
				text.SetString(before)
			})
		}
	}
	for _, path := range append(anyBytesIn, "Bind.Name", "Bind.Mechanism", "Search.Base", "Search.Attributes", "Search.Filter.Desc", "Name", "Changes.Desc", "Attributes.Desc", "NewRDN", "NewSuperior", "Desc", "Result.Matched", "Result.Text", "OID", "Controls.OID") {
		if seen[path] == 0 {
			t.Errorf("no text at %s was looked at", path)
		}
	}
}

// P13.2, P13.3: each field that the kind doesn't have, and each text whose Has.. is false, must be the zero value.
func TestForeignFields(t *testing.T) {
	requests, replies := full()
	r := rand.New(rand.NewSource(134))
	for i := range requests {
		for j := range requests {
			for field := range reflect.TypeFor[api.Request]().NumField() {
				q := requests[i]
				name := reflect.TypeFor[api.Request]().Field(field).Name
				reflect.ValueOf(&q).Elem().Field(field).Set(reflect.ValueOf(requests[j]).Field(field))
				written := holdEncodeRequest(t, q)
				foreign := !strings.Contains(" ID Kind Controls "+requestFields[q.Kind]+" ", " "+name) && !zero(reflect.ValueOf(q).Field(field))
				if foreign && written {
					t.Errorf("%s is written, with a field %s", told(q), name)
				}
			}
		}
	}
	for i := range replies {
		for j := range replies {
			for field := range reflect.TypeFor[api.Reply]().NumField() {
				p := replies[i]
				reflect.ValueOf(&p).Elem().Field(field).Set(reflect.ValueOf(replies[j]).Field(field))
				holdEncodeReply(t, p)
			}
		}
	}
	// One thing anywhere, set to something else or to nothing.
	for range 200 {
		requests, replies := full()
		for i := range requests {
			spoilOne(r, &requests[i])
			holdEncodeRequest(t, requests[i])
		}
		for i := range replies {
			spoilOne(r, &replies[i])
			holdEncodeReply(t, replies[i])
		}
	}
}

// P13.2, P13.3: a field of a kind that has none of the name, written in each place by itself.
func TestEachFieldAlone(t *testing.T) {
	for kind := api.Kind(-1); kind <= 10; kind++ {
		for _, base := range []api.Bind{{}, {Version: 3}, {Version: 3, Method: api.MethodSASL}} {
			clean := api.Request{ID: 1, Kind: kind, Bind: base}
			if kind == api.KindSearch {
				clean.Search.Filter = present("a")
			}
			holdEncodeRequest(t, clean)
			count := len(places(reflect.ValueOf(&clean).Elem()))
			for at := range count {
				q := clean
				q.Search.Filter = slices.Clone(clean.Search.Filter)
				place := places(reflect.ValueOf(&q).Elem())[at]
				switch place.Kind() {
				case reflect.String:
					place.SetString("x")
				case reflect.Bool:
					place.SetBool(true)
				case reflect.Slice:
					place.Set(reflect.Append(place, reflect.Zero(place.Type().Elem())))
				default:
					place.SetInt(place.Int() + 1)
				}
				holdEncodeRequest(t, q)
			}
		}
	}
	for kind := api.ReplyKind(-1); kind <= 9; kind++ {
		clean := api.Reply{ID: 1, Kind: kind}
		for at := range places(reflect.ValueOf(&clean).Elem()) {
			p := clean
			place := places(reflect.ValueOf(&p).Elem())[at]
			switch place.Kind() {
			case reflect.String:
				place.SetString("x")
			case reflect.Bool:
				place.SetBool(true)
			case reflect.Slice:
				place.Set(reflect.Append(place, reflect.Zero(place.Type().Elem())))
			default:
				place.SetInt(place.Int() + 1)
			}
			holdEncodeReply(t, p)
		}
	}
}

// chain is so many Nots, each in the one ahead of it, and this node in the last.
func chain(nots int, last api.FilterNode) api.Filter {
	var f api.Filter
	for depth := range nots {
		f = append(f, api.FilterNode{Depth: depth + 1, Op: api.Not})
	}
	last.Depth = nots + 1
	return append(f, last)
}

// P13.1, P13.2: a filter lies two levels deeper in a message than by itself.
func TestDeepFilters(t *testing.T) {
	for _, x := range []struct {
		last   api.FilterNode
		levels int // of the node alone
	}{
		{api.FilterNode{Op: api.Present, Desc: "a"}, 1}, {api.FilterNode{Op: api.And}, 1},
		{api.FilterNode{Op: api.Equality, Desc: "a"}, 2}, {api.FilterNode{Op: api.Extensible, Desc: "a"}, 2},
		{api.FilterNode{Op: api.Substrings, Desc: "a", Parts: api.Pattern{Final: "x"}}, 3},
	} {
		for nots := 56; nots <= 63; nots++ {
			f := chain(nots, x.last)
			alone, err := filter.Encode(f)
			if (err == api.OK) != (nots+x.levels <= 64) {
				t.Errorf("a filter of %d levels by itself: %d", nots+x.levels, err)
			}
			q := api.Request{ID: 1, Kind: api.KindSearch, Search: api.Search{Filter: f}}
			fit := nots+x.levels <= 62
			if holdEncodeRequest(t, q) != fit {
				t.Errorf("a filter of %d levels in a request, want %v", nots+x.levels, fit)
			}
			if err != api.OK {
				continue
			}
			s := el(0x30, el(0x02, "\x01"), el(0x63, fromHex("0400 0a0100 0a0100 020100 020100 010100"), alone, el(0x30)))
			if holdDecode(t, s) != fit {
				t.Errorf("the text of a filter of %d levels, want %v", nots+x.levels, fit)
			}
			if _, err := EncodeRequest(q); (err == api.OK) != fit || !fit && err != api.ErrCraft {
				t.Errorf("EncodeRequest of a filter of %d levels: %d", nots+x.levels, err)
			}
		}
	}
}

// P13.2, P13.3: lengths at which the shortest form has a byte more.
func TestLongContents(t *testing.T) {
	for _, n := range []int{0, 1, 100, 110, 115, 120, 122, 124, 126, 127, 128, 129, 200, 240, 250, 255, 256, 257, 65000, 65520, 65530, 65535, 65536, 70000} {
		long := strings.Repeat("x", n)
		for _, q := range []api.Request{
			{ID: 1, Kind: api.KindDelete, Name: long},
			{ID: 1, Kind: api.KindBind, Bind: api.Bind{Version: 3, Password: long}},
			{ID: 1, Kind: api.KindAdd, Name: long, Attributes: []api.Attr{{Desc: long, Values: []string{long, ""}}}},
			{ID: 1, Kind: api.KindSearch, Search: api.Search{Filter: api.Filter{{Depth: 1, Op: api.Equality, Desc: "a", Value: long}}, Attributes: []string{long}}},
			{ID: 1, Kind: api.KindUnbind, Controls: []api.Control{{OID: long, Value: long, HasValue: true}}},
		} {
			want := el(0x30, el(0x02, "\x01"), slowOperation(q), slowControls(q.Controls))
			got, err := EncodeRequest(q)
			if err != api.OK || got != want {
				t.Errorf("EncodeRequest with %d bytes of kind %d: %d bytes, %d", n, q.Kind, len(got), err)
			}
			if back, err := DecodeRequest(want); err != api.OK || told(back) != told(q) {
				t.Errorf("DecodeRequest with %d bytes of kind %d: %d", n, q.Kind, err)
			}
		}
		p := api.Reply{ID: 1, Kind: api.ReplyEntry, Name: long, Attributes: []api.Attr{{Desc: "a", Values: []string{long}}}}
		want := el(0x30, el(0x02, "\x01"), slowAnswer(p))
		got, err := EncodeReply(p)
		if err != api.OK || got != want {
			t.Errorf("EncodeReply with %d bytes: %d bytes, %d", n, len(got), err)
		}
		if back, err := DecodeReply(want); err != api.OK || told(back) != told(p) {
			t.Errorf("DecodeReply with %d bytes: %d", n, err)
		}
	}
}

// P13.1 to P13.3: there is no limit on a message's length: more than api.MaxMessage bytes, many members.
func TestLongMessages(t *testing.T) {
	q := api.Request{ID: 1, Kind: api.KindAdd, Attributes: []api.Attr{{Desc: "o", Values: []string{strings.Repeat("x", 3*api.MaxMessage)}}}}
	p := api.Reply{ID: 1, Kind: api.ReplyEntry}
	for i := range 50000 {
		q.Attributes = append(q.Attributes, api.Attr{Desc: fmt.Sprint("a", i), Values: []string{"", "x"}})
		p.Attributes = append(p.Attributes, api.Attr{Desc: fmt.Sprint("a", i)})
		q.Controls = append(q.Controls, api.Control{OID: fmt.Sprint(i)})
	}
	s, err := EncodeRequest(q)
	if back, backErr := DecodeRequest(s); err != api.OK || backErr != api.OK || len(s) < 3*api.MaxMessage || told(back) != told(q) {
		t.Errorf("a long request: %d bytes, %d, %d", len(s), err, backErr)
	}
	s, err = EncodeReply(p)
	if back, backErr := DecodeReply(s); err != api.OK || backErr != api.OK || told(back) != told(p) {
		t.Errorf("a long reply: %d bytes, %d, %d", len(s), err, backErr)
	}
}

// P13.4: no text is both a request's and a reply's; what is written as the one is refused as the other.
func TestNoTextIsBoth(t *testing.T) {
	r := rand.New(rand.NewSource(135))
	for range 5000 {
		s, err := EncodeRequest(someRequest(r))
		if _, other := DecodeReply(s); err != api.OK || other != api.ErrMessage {
			t.Errorf("%x is written as a request (%d), and read as a reply: %d", s, err, other)
		}
		s, err = EncodeReply(someReply(r))
		if _, other := DecodeRequest(s); err != api.OK || other != api.ErrMessage {
			t.Errorf("%x is written as a reply (%d), and read as a request: %d", s, err, other)
		}
	}
}
