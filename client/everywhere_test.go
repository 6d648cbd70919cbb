package client

import (
	"cmp"
	"fmt"
	"math"
	"reflect"
	"runtime"
	"slices"
	"strings"
	"sync"
	"testing"

	"roster/api"
)

// rooms are all lists in a value, as long as their room.
func rooms(v reflect.Value) []reflect.Value {
	var out []reflect.Value
	switch v.Kind() {
	case reflect.Struct:
		for i := range v.NumField() {
			out = append(out, rooms(v.Field(i))...)
		}
	case reflect.Slice:
		whole := v.Slice(0, v.Cap())
		out = append(out, whole)
		for i := range whole.Len() {
			out = append(out, rooms(whole.Index(i))...)
		}
	}
	return out
}

// spoil writes over all that the lists in a value have, spare room too, the innermost lists first.
func spoil(v any) {
	for _, room := range slices.Backward(rooms(reflect.ValueOf(v))) {
		for i := range room.Len() {
			switch x := room.Index(i); x.Kind() {
			case reflect.String:
				x.SetString("spoilt\xff")
			default:
				x.SetZero()
			}
		}
	}
}

// holdApart holds that no two lists in these values share memory, spare room too.
func holdApart(t *testing.T, values ...any) {
	t.Helper()
	type stretch struct{ from, to uintptr }
	var all []stretch
	for _, v := range values {
		for _, room := range rooms(reflect.ValueOf(v)) {
			if room.Len() > 0 {
				all = append(all, stretch{room.Pointer(), room.Pointer() + uintptr(room.Len())*room.Type().Elem().Size()})
			}
		}
	}
	slices.SortFunc(all, func(a, b stretch) int { return cmp.Compare(a.from, b.from) })
	for i := 1; i < len(all); i++ {
		if all[i].from < all[i-1].to {
			t.Fatal("two lists share memory")
		}
	}
}

// memoryLines are those whose requests have lists, several ones and nested ones too.
func memoryLines() []string {
	return []string{"search ldap:///o=x", "search ldap:///o=x?cn,sn,*?sub?(&(cn=*a*b*)(sn=*c*d*e)(a=b)) 7 types", "add n d v", "bind n p", "extended n v"}
}

// P0.1: what is written into the lists that Parse answered is seen in no other answer.
func TestParseMemory(t *testing.T) {
	for _, line := range memoryLines() {
		one, _, _ := Parse(line)
		other, _, _ := Parse(line)
		want := told(one)
		holdApart(t, one, other)
		spoil(one)
		third, _, _ := Parse(line)
		if told(other) != want || told(third) != want {
			t.Errorf("by what was written into an answer of %q the others became %s and %s", line, told(other), told(third))
		}
	}
}

// P0.1: Show changes nothing that it is handed, spare room too.
func TestShowMemory(t *testing.T) {
	m := newMaker(196)
	for range 500 {
		r := m.reply()
		r.Attributes, r.Controls = slices.Grow(r.Attributes, 3), slices.Grow(r.Controls, 3)
		before := told(r) + told(r.Attributes[:cap(r.Attributes)]) + told(r.Controls[:cap(r.Controls)])
		text := Show(r)
		if after := told(r) + told(r.Attributes[:cap(r.Attributes)]) + told(r.Controls[:cap(r.Controls)]); after != before {
			t.Fatalf("Show changed %s to %s", before, after)
		}
		want := strings.Clone(text)
		again := Show(r)
		spoil(r)
		if text != want || again != want {
			t.Fatalf("the text changed with its reply to %q", text)
		}
	}
}

// P0.1: nil and empty lists are the same.
func TestNilAndEmpty(t *testing.T) {
	for kind := range api.ReplyKind(10) {
		r := api.Reply{ID: 1, Kind: kind, Attributes: []api.Attr{}, Controls: []api.Control{}}
		if got, want := Show(r), Show(api.Reply{ID: 1, Kind: kind}); got != want {
			t.Errorf("of empty lists Show tells %q, of nil ones %q", got, want)
		}
	}
	if got, want := Show(entryOf("n", api.Attr{Desc: "cn", Values: []string{}})), Show(entryOf("n", api.Attr{Desc: "cn"})); got != want {
		t.Errorf("of an empty list of values Show tells %q, of a nil one %q", got, want)
	}
	for _, chunk := range [][]byte{nil, {}} {
		x := newTalk(t, "bind")
		x.holdTold(t, welcome[:3], "", api.OK)
		if got, err := x.Receive(chunk); got != "" || err != api.OK {
			t.Errorf("Receive(%#v) = %q, %d", chunk, got, err)
		}
		x.holdTold(t, welcome[3:], "# 1 bind 0\n", api.OK)
	}
}

// P0.1: what is written into the bytes and lists that a talk answered, or into a chunk behind the call, is seen nowhere.
func TestTalkMemory(t *testing.T) {
	c := New()
	one, _ := c.Send("search ldap:///o=x")
	two, _ := c.Send("search ldap:///o=x")
	other, _ := New().Send("search ldap:///o=x")
	first, second := c.Waiting(), c.Waiting()
	holdApart(t, one, two, other, first, second)
	if string(one) != string(other) || string(one) == string(two) {
		t.Fatalf("Send = %x, %x, and of another client %x", one, two, other)
	}
	want := string(two)
	spoilBytes(one)
	spoil(first)
	if string(two) != want || !slices.Equal(second, []int{1, 2}) || !slices.Equal(c.Waiting(), []int{1, 2}) {
		t.Fatalf("what was answered became %x, %v, and then %v", two, second, c.Waiting())
	}
	a := found(1, "a")
	chunk := []byte(a + a[:len(a)-1] + "spare")
	text, _ := c.Receive(chunk[:len(chunk)-5])
	spoilBytes(chunk)
	const shown = "# 1 entry\ndn: a\ncn: a\ncn:: IGI=\n\n"
	if text != shown {
		t.Fatalf("the text became %q", text)
	}
	if text, err := c.Receive([]byte(a[len(a)-1:])); text != shown || err != api.OK {
		t.Fatalf("what was held became %q, %d", text, err)
	}
}

// P0.1: every call ends and none panics, at lines of any bytes, replies of any numbers, chunks of any bytes.
func TestAnyArguments(t *testing.T) {
	m := newMaker(197)
	for range 5000 {
		holdSlow(t, m.someBytes(40))
		holdSlow(t, pick(m, words...)+" "+m.someBytes(20))
		r := m.reply()
		r.Kind = pick(m, r.Kind, api.ReplyKind(m.anyNumber()), math.MinInt, math.MaxInt)
		if got, want := Show(r), slowShow(r); got != want {
			t.Fatalf("Show(%s) = %q, want %q", told(r), got, want)
		}
		x := newTalk(t, "bind", "search ldap:///")
		x.send(t, m.someBytes(20))
		for _, chunk := range m.cuts(m.damaged(m.stream(x, 3))) {
			x.receive(t, chunk)
		}
		x.receive(t, m.someBytes(20))
	}
	for range 200 {
		snapshot, script := m.damaged(people), m.someBytes(60)
		want, fault := slowDialog(snapshot, script)
		if got, f := Dialog(snapshot, script); got != want || f != fault {
			t.Fatalf("Dialog(%q, %q) = %q, %v; want %q, %v", snapshot, script, got, f, want, fault)
		}
	}
}

// P0.1: long lines, long scripts, many that wait.
func TestLong(t *testing.T) {
	const many = 20000
	spaces := strings.Repeat(" ", many)
	holdParsed(t, spaces+"bind"+spaces+"n"+spaces, binding("n", ""))
	holdRefused(t, spaces+"bind"+spaces+"n"+spaces+"%", api.ErrPercent, 3*many+5)
	holdRefused(t, spaces+"fly", api.ErrCommand, many)
	holdRefused(t, spaces, api.ErrNothing, 0)
	holdRefused(t, "bind"+strings.Repeat(" n", many), api.ErrCommand, 9)
	holdParsed(t, "delete "+strings.Repeat("%41", many), named(api.KindDelete, strings.Repeat("A", many)))
	holdRefused(t, "delete "+strings.Repeat("%41", many)+"%", api.ErrPercent, 7+3*many)
	var want strings.Builder
	for id := range many {
		fmt.Fprintf(&want, "# %d bind 0\n", id+1)
	}
	if got, fault := Dialog(small, strings.Repeat("bind\n", many)); got != want.String() || fault != (api.Fault{}) {
		t.Errorf("a long script is told otherwise: %v", fault)
	}
	c := New()
	var all, shown strings.Builder
	for id := many; id >= 1; id-- {
		c.Send("delete n")
		all.WriteString(end(id, api.ReplyDelete))
		fmt.Fprintf(&shown, "# %d delete 0\n", id)
	}
	if got := c.Waiting(); len(got) != many || !slices.IsSorted(got) {
		t.Errorf("%d wait", len(got))
	}
	if got, err := c.Receive([]byte(all.String())); got != shown.String() || err != api.OK || len(c.Waiting()) != 0 {
		t.Errorf("many replies at once: %d, and %d wait", err, len(c.Waiting()))
	}
}

// inUse is how many bytes of memory are, behind a collection.
func inUse() int {
	runtime.GC()
	var now runtime.MemStats
	runtime.ReadMemStats(&now)
	return int(now.HeapAlloc)
}

// P19.3: a talk keeps nothing of replies that were told, nor of what it was handed when it is over.
func TestKeepsNothing(t *testing.T) {
	great := encoded(api.Reply{ID: 1, Kind: api.ReplyEntry, Attributes: []api.Attr{{Desc: "cn", Values: []string{strings.Repeat("v", 1<<20)}}}})
	var talks []*Client
	before := inUse()
	for range 20 {
		open, closed := New(), New()
		for _, c := range []*Client{open, closed} {
			c.Send("search ldap:///")
			c.Receive([]byte(great))
			talks = append(talks, c)
		}
		closed.Receive([]byte(great[:len(great)-1]))
		closed.Send("unbind")
	}
	if more := inUse() - before; more > 5<<20 {
		t.Errorf("of %d talks %d more bytes are in use", len(talks), more)
	}
	runtime.KeepAlive(talks)
}

// P0.1: many may call at once.
func TestAtOnce(t *testing.T) {
	m := newMaker(198)
	var scripts, want []string
	for range 30 {
		script := m.line() + "\n" + m.line() + "\n" + wholeTree("dc=x") + "\n" + m.line()
		text, _ := slowDialog(people, script)
		scripts, want = append(scripts, script), append(want, text)
	}
	var group sync.WaitGroup
	for range 8 {
		group.Go(func() {
			for i, script := range scripts {
				if got, _ := Dialog(people, script); got != want[i] {
					t.Errorf("beside others %q is told as %q, not %q", script, got, want[i])
				}
			}
		})
	}
	group.Wait()
}
