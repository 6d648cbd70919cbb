package change

import (
	"cmp"
	"reflect"
	"slices"
	"strings"
	"sync"
	"testing"

	"roster/api"
)

// rooms are all lists in a value, as long as their room.
func rooms(x reflect.Value) []reflect.Value {
	var out []reflect.Value
	switch x.Kind() {
	case reflect.Struct:
		for i := range x.NumField() {
			out = append(out, rooms(x.Field(i))...)
		}
	case reflect.Slice:
		whole := x.Slice(0, x.Cap())
		out = append(out, whole)
		for i := range whole.Len() {
			out = append(out, rooms(whole.Index(i))...)
		}
	}
	return out
}

// spoil writes over all that the lists in a value have, spare room too, the innermost lists first.
func spoil(x any) {
	for _, room := range slices.Backward(rooms(reflect.ValueOf(x))) {
		for i := range room.Len() {
			if room.Index(i).Kind() == reflect.String {
				room.Index(i).SetString("spoilt")
			} else {
				room.Index(i).SetZero()
			}
		}
	}
}

// roomsTold is all that lists hold, spare room too.
func roomsTold(x any) string {
	var out strings.Builder
	for _, room := range rooms(reflect.ValueOf(x)) {
		out.WriteString(told(room.Interface()))
	}
	return out.String()
}

// holdOwnMemory holds that no two lists of some values have a byte in common.
func holdOwnMemory(t *testing.T, all ...any) {
	t.Helper()
	type span struct{ from, to uintptr }
	var spans []span
	for _, x := range all {
		for _, room := range rooms(reflect.ValueOf(x)) {
			if size := uintptr(room.Len()) * room.Type().Elem().Size(); size > 0 {
				spans = append(spans, span{room.Pointer(), room.Pointer() + size})
			}
		}
	}
	slices.SortFunc(spans, func(a, b span) int { return cmp.Compare(a.from, b.from) })
	for i := 1; i < len(spans); i++ {
		if spans[i].from < spans[i-1].to {
			t.Fatalf("two lists share memory, of %s", told(all))
		}
	}
}

// roomy is a copy of records of which every list has spare room with something in it.
func roomy(cs []api.ChangeRecord) []api.ChangeRecord {
	out := append(slices.Clone(cs), add(7, "spare", "o", "room"), erase(8, "more"))[:len(cs)]
	for i := range out {
		c := &out[i]
		c.Controls = append(slices.Clone(c.Controls), api.Control{OID: "9.9"}, api.Control{OID: "9.8"})[:len(c.Controls)]
		c.Pairs = append(slices.Clone(c.Pairs), pairs("spare", "pair", "more", "pairs")...)[:len(c.Pairs)]
		c.Changes = append(slices.Clone(c.Changes), change(1, "spare", "value"), change(2, "more"))[:len(c.Changes)]
		for j := range c.Changes {
			values := c.Changes[j].Values
			c.Changes[j].Values = append(slices.Clone(values), "spare", "values")[:len(values)]
		}
	}
	return out
}

// P20.3, P20.4, P0.1: what is handed in is not changed, spare room too; and what the caller writes into it behind the call is not seen in the answer.
func TestRecordsAreNotChanged(t *testing.T) {
	m := newMaker(205)
	for range 2000 {
		cs := roomy(m.records())
		before := roomsTold(cs)
		want, _ := slowRender(cs)
		asked, _ := slowRequests(cs, 1)
		wanted := told(asked)
		rendered, _, _ := Render(cs)
		requests, _, _ := Requests(cs, 1)
		if after := roomsTold(cs); after != before {
			t.Fatalf("%s became %s", before, after)
		}
		holdOwnMemory(t, cs, requests)
		spoil(cs)
		if rendered != want || told(requests) != wanted {
			t.Fatalf("with what was handed in the answers became %q and %s; they were %q and %s", rendered, told(requests), want, wanted)
		}
	}
}

// P20.1, P20.2, P0.1: what is answered is new memory: no list of it is seen to change with another.
func TestLoadedIsNewMemory(t *testing.T) {
	want := told(everyRecord())
	first, _, _ := Load(every)
	second, _, _ := Load(every)
	records := Records(every)
	third, fourth := slices.Collect(records), slices.Collect(records)
	holdOwnMemory(t, first, second, third, fourth)
	spoil(first)
	spoil(third)
	fifth, _, _ := Load(every)
	for _, other := range [][]api.ChangeRecord{second, fourth, fifth, slices.Collect(records)} {
		if told(other) != want {
			t.Errorf("by another answer's change it became %s", told(other))
		}
	}
	place := 0
	for c := range records {
		if told(c) != told(everyRecord()[place]) {
			t.Errorf("by the change of one ahead of it the one at %d became %s", place, told(c))
		}
		spoil(c)
		place++
	}
}

// P20.4, P0.1: so are requests.
func TestRequestsAreNewMemory(t *testing.T) {
	cs := everyRecord()
	cs = append(cs, cs...) // the lists of the first five stand in it twice
	asked, _ := slowRequests(cs, 1)
	want := told(asked)
	first, _, _ := Requests(cs, 1)
	second, _, _ := Requests(cs, 1)
	holdOwnMemory(t, cs[:5:5], first, second)
	spoil(first)
	third, _, _ := Requests(cs, 1)
	if told(second) != want || told(third) != want || told(cs[:5]) != told(everyRecord()) {
		t.Errorf("by another answer's change they became %s and %s, of %s", told(second), told(third), told(cs))
	}
	for i := range second {
		spoil(second[i])
		if told(second[i+1:]) != told(third[i+1:]) {
			t.Errorf("by the change of the one at %d the others became %s", i, told(second[i+1:]))
		}
	}
}

// P0.1: records that the caller writes into ahead of a second call are read anew.
func TestNothingIsKept(t *testing.T) {
	cs := list(add(0, "a", "b", "c"))
	first, _, _ := Render(cs)
	requests, _, _ := Requests(cs, 1)
	for _, desc := range []string{"o", "dn", "", "o"} {
		cs[0].Pairs[0].Desc = desc
		holdRendered(t, cs)
		holdAsked(t, cs, 1)
	}
	if first != v+"\ndn: a\nchangetype: add\nb: c\n" || requests[0].Attributes[0].Desc != "b" {
		t.Errorf("the answers became %q and %s", first, told(requests))
	}
}

// P0.1: no call panics at any text, any number, and beside an error every other result is its zero value.
func TestCallsAtAnything(t *testing.T) {
	m := newMaker(206)
	for range 20000 {
		raw := make([]byte, m.Intn(40))
		for i := range raw {
			raw[i] = pick(m, "\n", "\r", " ", "#", ":", "-", "a", "1", ".", string([]byte{byte(m.Intn(256))}))[0]
		}
		s := string(raw)
		holdText(t, s)
		holdText(t, pick(m, v, named, adding, erasing, turning, moving, bearing, bearing+" 1.2", turning+"add: cn\n")+s)
		c := m.record()
		c.Kind = pick(m, c.Kind, api.ChangeKind(m.Uint64()), api.ChangeKind(m.Intn(9)-3))
		for i := range c.Changes {
			c.Changes[i].Kind = pick(m, c.Changes[i].Kind, int(m.Uint64()))
			c.Changes[i].Desc = pick(m, c.Changes[i].Desc, s)
		}
		for i := range c.Controls {
			c.Controls[i].OID = pick(m, c.Controls[i].OID, s)
		}
		holdRendered(t, list(c))
		holdAsked(t, list(c, c), int(m.Uint64()>>m.Intn(64)))
	}
}

// P0.1: long texts and lists; the work grows no faster than they do.
func TestLong(t *testing.T) {
	const many = 20000
	var s strings.Builder
	s.WriteString(bearing + " 1" + strings.Repeat(".1", many) + strings.Repeat(" ", many) + "true: " + strings.Repeat("v", many) + "\n" + strings.Repeat("control: 1.2\n", many) + "changetype: modify\n")
	s.WriteString(strings.Repeat("add: cn\n-\n", many) + "replace: cn\n" + strings.Repeat("commonName: a\n", many) + "-\n")
	s.WriteString("\n" + strings.Repeat("#\n\n", many) + "dn: o=x\nchangetype: add\n" + strings.Repeat("o: x\nx-odd: y\n", many))
	s.WriteString(strings.Repeat("\ndn: o=x\nchangetype: delete\n", many))
	cs, err, at := Load(s.String())
	if err != api.OK || at != 0 || len(cs) != many+2 || len(cs[0].Controls) != many+1 || len(cs[0].Changes) != many+1 || len(cs[0].Changes[many].Values) != many || len(cs[1].Pairs) != 2*many {
		t.Fatalf("%d records, %d, %d", len(cs), err, at)
	}
	if _, err, at := Load(s.String() + "x"); err != api.ErrChangeLine || at != strings.Count(s.String(), "\n")+1 {
		t.Errorf("a fault at the end is told as %d, %d", err, at)
	}
	text, err, _ := Render(cs)
	if err != api.OK {
		t.Fatalf("Render: %d", err)
	}
	if back, err, _ := Load(text); err != api.OK || len(back) != len(cs) {
		t.Errorf("read again there are %d records, %d", len(back), err)
	}
	requests, err, _ := Requests(cs, 1)
	if err != api.OK || len(requests) != len(cs) || len(requests[1].Attributes) != 2 || len(requests[1].Attributes[1].Values) != many {
		t.Errorf("%d requests, %d", len(requests), err)
	}
}

// P0.1: calls at the same time, rangings over one iterator too, do not meet.
func TestCallsAreAlone(t *testing.T) {
	shared := Records(every)
	records := everyRecord()
	want := told(records)
	rendered, _ := slowRender(records)
	asked, _ := slowRequests(records, 1)
	wanted := told(asked)
	var group sync.WaitGroup
	for i := range 8 {
		group.Go(func() {
			m := newMaker(int64(i))
			for range 100 {
				s := m.text()
				ahead, _ := slowRead(s)
				if got := slices.Collect(Records(s)); told(got) != told(ahead) {
					t.Errorf("Records(%q) gives %s", s, told(got))
				}
				if got := slices.Collect(shared); told(got) != want {
					t.Errorf("the shared iterator gives %s", told(got))
				}
				if got, _, _ := Render(records); got != rendered {
					t.Errorf("Render gives %q", got)
				}
				if got, _, _ := Requests(records, 1); told(got) != wanted {
					t.Errorf("Requests gives %s", told(got))
				}
			}
		})
	}
	group.Wait()
}
