package change

import (
	"math"
	"testing"

	"roster/api"
	"roster/msg"
)

func holdRequests(t *testing.T, cs []api.ChangeRecord, first int, want ...api.Request) {
	t.Helper()
	if got, err, at := Requests(cs, first); told(got) != told(want) || err != api.OK || at != 0 {
		t.Errorf("Requests(%s, %d) = %s, %d, %d; want %s", told(cs), first, told(got), err, at, told(want))
	}
	holdAsked(t, cs, first)
}

func holdNoRequests(t *testing.T, cs []api.ChangeRecord, first int, number api.Errno, place int) {
	t.Helper()
	if got, err, at := Requests(cs, first); len(got) != 0 || err != number || at != place {
		t.Errorf("Requests(%s, %d) = %s, %d, %d; want %d, %d", told(cs), first, told(got), err, at, number, place)
	}
	holdAsked(t, cs, first)
}

func fresh(desc string, values ...string) api.Attr { return api.Attr{Desc: desc, Values: values} }

// P20.4: the chapter's examples.
func TestRequestExamples(t *testing.T) {
	holdRequests(t, list(add(2, "cn=a,o=x", "cn", "a", "SN", "b")), 7, api.Request{ID: 7, Kind: api.KindAdd, Name: "cn=a,o=x", Attributes: []api.Attr{fresh("cn", "a"), fresh("SN", "b")}})
	holdRequests(t, list(add(0, "", "cn", "a", "sn", "b", "commonName", "c")), 1, api.Request{ID: 1, Kind: api.KindAdd, Attributes: []api.Attr{fresh("cn", "a", "c"), fresh("sn", "b")}})
	holdNoRequests(t, list(erase(0, "\xff")), 1, api.ErrCraft, 0)
	holdNoRequests(t, list(erase(0, "o=x")), 0, api.ErrCraft, 0)
	for _, none := range [][]api.ChangeRecord{nil, {}, noneWithRoom()} {
		for _, first := range []int{0, 1, -1, api.MaxID, api.MaxID + 1, math.MinInt, math.MaxInt} {
			holdRequests(t, none, first)
		}
	}
}

// P20.4: a request of each kind, with controls and without, and its id.
func TestRequestKinds(t *testing.T) {
	controls := []api.Control{{OID: "1.2", Critical: true, Value: "\xff", HasValue: true}, {OID: "1.2"}, {OID: "1.3", HasValue: true}}
	for _, x := range []struct {
		c    api.ChangeRecord
		want api.Request
	}{
		{add(5, "o=x", "o", "x"), api.Request{Kind: api.KindAdd, Attributes: []api.Attr{fresh("o", "x")}}},
		{erase(5, "o=x"), api.Request{Kind: api.KindDelete}},
		{modify(5, "o=x"), api.Request{Kind: api.KindModify}},
		{modify(5, "o=x", change(0, "cn", "a", "a", "\xff"), change(1, "commonName"), change(2, "CN;x", "")), api.Request{Kind: api.KindModify, Changes: []api.Change{change(0, "cn", "a", "a", "\xff"), change(1, "commonName"), change(2, "CN;x", "")}}},
		{rename(5, "o=x", "o=y", false), api.Request{Kind: api.KindRename, NewRDN: "o=y"}},
		{rename(5, "o=x", "", true), api.Request{Kind: api.KindRename, DeleteOld: true}},
		{beneath(rename(5, "o=x", "o=y", true), ""), api.Request{Kind: api.KindRename, NewRDN: "o=y", DeleteOld: true, HasNewSuperior: true}},
		{beneath(rename(5, "o=x", "o=y", false), "o=z"), api.Request{Kind: api.KindRename, NewRDN: "o=y", NewSuperior: "o=z", HasNewSuperior: true}},
	} {
		x.want.Name = "o=x"
		bearing := x.want
		bearing.Controls = controls
		for _, first := range []int{1, 2, 7, 1 << 20, api.MaxID - 2} {
			one, two, three := x.want, bearing, x.want
			one.ID, two.ID, three.ID = first, first+1, first+2
			holdRequests(t, list(x.c, bears(x.c, controls...), x.c), first, one, two, three)
		}
	}
}

// P20.4: an add's pairs are gathered by canonical description, in the order of the first of each.
func TestRequestGathers(t *testing.T) {
	for _, x := range []struct {
		words []string
		want  []api.Attr
	}{
		{[]string{"cn", "a", "CN", "a", "2.5.4.3", "a"}, []api.Attr{fresh("cn", "a", "a", "a")}},
		{[]string{"commonName", "b", "cn", "a", "Sn", "x", "cn", "", "surname", "y"}, []api.Attr{fresh("commonName", "b", "a", ""), fresh("Sn", "x", "y")}},
		{[]string{"cn;x", "a", "cn", "b", "CN;X", "c", "cn;y", "d", "cn;x;x", "e"}, []api.Attr{fresh("cn;x", "a", "c", "e"), fresh("cn", "b"), fresh("cn;y", "d")}},
		{[]string{"sn;b;A", "a", "surname;a;B", "b", "2.5.4.4;A;b;a", "c", "sn;a", "d"}, []api.Attr{fresh("sn;b;A", "a", "b", "c"), fresh("sn;a", "d")}},
		{[]string{"z", "1", "y", "2", "x", "3", "Z", "4", "Y", "5", "X", "6", "w", "7"}, []api.Attr{fresh("z", "1", "4"), fresh("y", "2", "5"), fresh("x", "3", "6"), fresh("w", "7")}},
		{[]string{"X-Odd", "a", "1.2.3", "b", "x-odd", "c", "1.2.3", "b"}, []api.Attr{fresh("X-Odd", "a", "c"), fresh("1.2.3", "b", "b")}},
		{[]string{"name", "a", "cn", "b"}, []api.Attr{fresh("name", "a"), fresh("cn", "b")}},
		{[]string{"cn", "\xff", "cn", ""}, []api.Attr{fresh("cn", "\xff", "")}},
	} {
		holdRequests(t, list(add(0, "o=x", x.words...)), 3, api.Request{ID: 3, Kind: api.KindAdd, Name: "o=x", Attributes: x.want})
	}
}

// P20.4: ids that are none.
func TestRequestIDs(t *testing.T) {
	fine := list(erase(1, "a"), modify(1, "b"), add(1, "c", "o", "x"))
	for _, first := range []int{0, -1, -2, math.MinInt, api.MaxID + 1, math.MaxInt - 1, math.MaxInt} {
		holdNoRequests(t, fine, first, api.ErrCraft, 0)
	}
	holdNoRequests(t, fine, api.MaxID, api.ErrCraft, 1)
	holdNoRequests(t, fine, api.MaxID-1, api.ErrCraft, 2)
	holdRequests(t, fine[:1], api.MaxID, api.Request{ID: api.MaxID, Kind: api.KindDelete, Name: "a"})
}

// P20.4: what Render refuses, what msg refuses, and which is told.
func TestRequestsRefused(t *testing.T) {
	fine := modify(1, "o=x", change(0, "cn", "a"))
	craft := list(erase(0, "\xff"), add(0, "a\xc3", "o", "x"), modify(0, "\x80"), rename(0, "\xff", "", true), rename(0, "", "\xff", true), beneath(rename(0, "", "", true), "\xff"), beneath(rename(0, "", "o=y", false), "\xed\xa0\x80"))
	for _, bad := range unwritten() {
		for place, cs := range [][]api.ChangeRecord{{bad, fine}, {fine, bad}, {fine, fine, bad, bad}} {
			holdNoRequests(t, cs, 1, api.ErrUnwritten, place)
		}
		// Its own fault is told ahead of its id's, and of its name's.
		holdNoRequests(t, list(bad), 0, api.ErrUnwritten, 0)
		holdNoRequests(t, list(fine, bad), api.MaxID, api.ErrUnwritten, 1)
		holdNoRequests(t, list(with(bad, func(c *api.ChangeRecord) { c.Name = "\xff" })), 1, api.ErrUnwritten, 0)
		// But a record ahead of it comes first, whatever its fault is.
		holdNoRequests(t, list(craft[0], bad), 1, api.ErrCraft, 0)
		holdNoRequests(t, list(bad, craft[0]), 1, api.ErrUnwritten, 0)
		holdNoRequests(t, list(fine, bad), 0, api.ErrCraft, 0)
	}
	for _, bad := range craft {
		for place, cs := range [][]api.ChangeRecord{{bad, fine}, {fine, bad}, {fine, fine, bad, bad}} {
			holdNoRequests(t, cs, 1, api.ErrCraft, place)
			holdRendered(t, cs)
		}
	}
}

// P20.4: lists at random; what is answered can be sent, and comes to the server as it is.
func TestRequestsAtRandom(t *testing.T) {
	m := newMaker(204)
	done := 0
	for range 20000 {
		cs := m.records()
		first := pick(m, 1, 1, 1, 1, 1, 1, 1, 7, 0, api.MaxID, api.MaxID-1, -1)
		holdAsked(t, cs, first)
		requests, err, _ := Requests(cs, first)
		if err == api.OK && len(cs) > 0 {
			done++
		}
		for _, r := range requests {
			s, err := msg.EncodeRequest(r)
			back, bad := msg.DecodeRequest(s)
			if err != api.OK || bad != api.OK || told(back) != told(r) {
				t.Fatalf("%s comes as %s, %d, %d", told(r), told(back), err, bad)
			}
		}
	}
	if done < 3000 {
		t.Errorf("of the lists only %d become requests", done)
	}
}
