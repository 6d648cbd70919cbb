package server

import (
	"cmp"
	"fmt"
	"reflect"
	"runtime"
	"slices"
	"strings"
	"sync"
	"testing"

	"roster/api"
)

// roomy is a copy of a value all of whose lists, empty ones too, have spare room that has something in it.
func roomy[T any](v T) T {
	return roomyValue(reflect.ValueOf(v)).Interface().(T)
}

func roomyValue(v reflect.Value) reflect.Value {
	out := reflect.New(v.Type()).Elem()
	switch v.Kind() {
	case reflect.Struct:
		for i := range v.NumField() {
			out.Field(i).Set(roomyValue(v.Field(i)))
		}
	case reflect.Slice:
		out.Set(reflect.MakeSlice(v.Type(), v.Len()+2, v.Len()+2))
		for i := range v.Len() {
			out.Index(i).Set(roomyValue(v.Index(i)))
		}
		for i := v.Len(); i < out.Len(); i++ {
			junk(out.Index(i))
		}
		out.Set(out.Slice(0, v.Len()))
	default:
		out.Set(v)
	}
	return out
}

// junk writes over a value.
func junk(v reflect.Value) {
	switch v.Kind() {
	case reflect.Struct:
		for i := range v.NumField() {
			junk(v.Field(i))
		}
	case reflect.Slice:
		spoil(v)
		v.SetZero()
	case reflect.String:
		v.SetString("spoilt\xff")
	case reflect.Bool:
		v.SetBool(true)
	default:
		v.SetInt(-77)
	}
}

// spoil writes over all that the lists in a value have, spare room too; the value's own fields stay.
func spoil(v reflect.Value) {
	switch v.Kind() {
	case reflect.Struct:
		for i := range v.NumField() {
			spoil(v.Field(i))
		}
	case reflect.Slice:
		spare := v.Slice(0, v.Cap())
		for i := range spare.Len() {
			junk(spare.Index(i))
		}
	}
}

// rooms are all lists in a value, as long as their room.
func rooms(v reflect.Value) []reflect.Value {
	var out []reflect.Value
	switch v.Kind() {
	case reflect.Struct:
		for i := range v.NumField() {
			out = append(out, rooms(v.Field(i))...)
		}
	case reflect.Slice:
		whole := v.Slice(0, v.Cap())
		out = append(out, whole)
		for i := range whole.Len() {
			out = append(out, rooms(whole.Index(i))...)
		}
	}
	return out
}

// everything is all that a value has, spare room too, as a text.
func everything(v any) string {
	out := told(v)
	for _, room := range rooms(reflect.ValueOf(v)) {
		out += "|" + told(room.Interface())
	}
	return out
}

// holdApart holds that no two lists in these values share memory.
func holdApart(t *testing.T, values ...any) {
	t.Helper()
	type stretch struct{ from, to uintptr }
	var all []stretch
	for _, v := range values {
		for _, room := range rooms(reflect.ValueOf(v)) {
			if room.Len() > 0 {
				all = append(all, stretch{room.Pointer(), room.Pointer() + uintptr(room.Len())*room.Type().Elem().Size()})
			}
		}
	}
	slices.SortFunc(all, func(a, b stretch) int { return cmp.Compare(a.from, b.from) })
	for i := 1; i < len(all); i++ {
		if all[i].from < all[i-1].to {
			t.Fatal("two lists share memory")
		}
	}
}

// P0.1: Answer changes nothing that it is handed, spare room too, and keeps none of it; its answers share no memory with anything; asked again, it answers the same.
func TestAnswersMemory(t *testing.T) {
	m := newMaker(181)
	for range 60 {
		paths := m.paths(m.Intn(10))
		s := open(t, m.snapshot(paths))
		for range 30 {
			r := roomy(m.request(paths))
			before := everything(r)
			one, ends := s.Answer(r)
			other, _ := s.Answer(r)
			if everything(r) != before {
				t.Fatalf("%s became %s", before, everything(r))
			}
			holdApart(t, one, other, r)
			want := told(one)
			again := roomy(r)
			spoil(reflect.ValueOf(r))
			if told(one) != want || told(other) != want {
				t.Fatalf("by what was written into the request %s became %s and %s", want, told(one), told(other))
			}
			spoil(reflect.ValueOf(one))
			if third, end := s.Answer(again); told(other) != want || told(third) != want || end != ends {
				t.Fatalf("by what was written into an answer %s became %s and %s", want, told(other), told(third))
			}
		}
	}
}

// P0.1: nil and empty lists are the same.
func TestNilAndEmpty(t *testing.T) {
	s := open(t, chapter)
	q := searching(t, "(&)")
	for _, lists := range []struct {
		attributes []string
		controls   []api.Control
	}{{nil, nil}, {[]string{}, []api.Control{}}} {
		q.Attributes, q.Filter[0].Parts.Any = lists.attributes, lists.attributes
		r := asking(3, q)
		r.Controls, r.Changes, r.Attributes = lists.controls, []api.Change{}, []api.Attr{}
		holdAnswer(t, s, r, false, entryReply(3, "dc=x", given("objectClass", "domain"), given("dc", "x")), entryReply(3, "cn=A B,dc=x", given("cn", "A B"), given("mail", "a@x")), done(3, api.Success, ""))
	}
}

// P0.1: what is written into chunks behind the call, into answers, and into the chunks of a Talk is seen nowhere; two answers share no memory.
func TestBytesAreTheCallers(t *testing.T) {
	s := open(t, chapter)
	c := s.Connect()
	room := []byte(hello + find[:9] + "spare")
	whole := string(room)
	one := c.Feed(room[:len(room)-5])
	if string(room) != whole {
		t.Fatalf("Feed changed what it was handed to %x", room)
	}
	spoilBytes(room)
	two := c.Feed([]byte(find[9:] + hello))
	three := c.Feed([]byte(hello))
	holdApart(t, one, two, three)
	for _, x := range []struct {
		got  []byte
		want string
	}{{one, welcome}, {two, found + welcome}, {three, welcome}} {
		if string(x.got) != x.want {
			t.Fatalf("it answered %x, want %x", x.got, x.want)
		}
		spoilBytes(x.got)
	}
	holdFed(t, c, find+"\x31", found+notice)
	holdFed(t, s.Connect(), find+"\x31", found+notice)

	chunks := [][]byte{[]byte(hello[:5]), []byte(hello[5:] + find)}
	told, _ := Talk(chapter, chunks)
	if string(chunks[0])+string(chunks[1]) != hello+find || len(chunks) != 2 {
		t.Fatalf("Talk changed its chunks to %x", chunks)
	}
	spoilBytes(chunks[1])
	if string(told) != welcome+found {
		t.Fatalf("what was told became %x", told)
	}
}

// P17.7, P17.5, P0.1: many sessions of one server at once, with those who ask it for all else.
func TestAtOnce(t *testing.T) {
	m := newMaker(182)
	paths := m.paths(12)
	w := newWorld(t, m.snapshot(paths))
	rendered := slowRender(w.entries)
	type talk struct {
		chunks []string
		want   state
	}
	var talks []talk
	for range 40 {
		stream := m.stream(t, paths)
		talks = append(talks, talk{m.cuts(stream), w.behind(stream)})
	}
	var all sync.WaitGroup
	for who := range 16 {
		all.Go(func() {
			for i := range talks {
				one := talks[(i+who)%len(talks)]
				c, answered := w.server.Connect(), ""
				for _, chunk := range one.chunks {
					answered += string(c.Feed([]byte(chunk)))
				}
				if got := (state{answered, c.Closed(), c.Held(), c.Served()}); got != one.want {
					t.Errorf("beside others: %s; want %s", got, one.want)
				}
				if w.server.Render() != rendered || w.server.Size() != len(w.entries) {
					t.Error("beside others Render or Size tells something else")
				}
			}
		})
	}
	all.Wait()
}

// The chapter's Ways: whatever goes wrong beneath, Feed doesn't panic but hangs up; what was answered ahead of it is told, and no other session is touched.
func TestSessionNeverDies(t *testing.T) {
	s := open(t, chapter)
	for _, wrong := range []any{"wrong", nil, fmt.Errorf("wrong"), runtime.Error(nil)} {
		c := s.Connect()
		answer := c.answer
		c.answer = func(r api.Request) ([]api.Reply, bool) {
			if r.Kind == api.KindDelete {
				panic(wrong)
			}
			return answer(r)
		}
		holdFed(t, c, hello+find[:7], welcome)
		holdFed(t, c, find[7:]+remove+hello+hello[:5], found)
		holdState(t, c, true, 0, 3)
		holdFed(t, c, hello, "")
		holdState(t, c, true, 0, 3)
		other := s.Connect()
		holdFed(t, other, find+remove, found+removed)
		holdState(t, other, false, 0, 2)
	}
}

// P17.4: a reply that can't be written is left out, those ahead of it and behind it are not.
func TestUnwritableReply(t *testing.T) {
	c := open(t, chapter).Connect()
	c.answer = func(r api.Request) ([]api.Reply, bool) {
		return []api.Reply{{ID: 1, Kind: api.ReplyBind}, {ID: -1, Kind: api.ReplyBind}, {ID: 1, Kind: api.ReplyBind}}, false
	}
	holdFed(t, c, remove+remove[:3], welcome+welcome)
	holdState(t, c, false, 3, 1)
}

// inUse is how many bytes of memory are, behind a collection.
func inUse() int {
	runtime.GC()
	var now runtime.MemStats
	runtime.ReadMemStats(&now)
	return int(now.HeapAlloc)
}

// P17.4, P0.5: a closed session keeps nothing of what came behind its end, nor of what was not whole yet.
func TestClosedKeepsNothing(t *testing.T) {
	s := open(t, chapter)
	long := great(api.MaxMessage, 4)[:api.MaxMessage-1]
	var closed []*Session
	before := inUse()
	for range 40 {
		c := s.Connect()
		c.Feed([]byte(goodbye + long))
		holdState(t, c, true, 0, 1)
		closed = append(closed, c)
	}
	if more := inUse() - before; more > 10<<20 {
		t.Errorf("%d closed sessions, and %d more bytes are in use", len(closed), more)
	}
	runtime.KeepAlive(closed)
}

// P17.3, P17.4: a search that finds very many entries.
func TestManyEntries(t *testing.T) {
	const count = 3000
	var snapshot strings.Builder
	snapshot.WriteString("version: 1\n\ndn: dc=x\ndc: x\n")
	for n := range count {
		fmt.Fprintf(&snapshot, "\ndn: cn=%04d,dc=x\nsn: of %d\n", n, n%7)
	}
	s := open(t, snapshot.String())
	q := searching(t, "(sn=of 3)", "cn")
	var want []api.Reply
	for n := 3; n < count; n += 7 {
		number := fmt.Sprintf("%04d", n)
		want = append(want, entryReply(8, "cn="+number+",dc=x", given("cn", number)))
	}
	holdAnswer(t, s, asking(8, q), false, append(want, done(8, api.Success, ""))...)
	q.SizeLimit = 100
	holdAnswer(t, s, asking(8, q), false, append(want[:100:100], done(8, api.SizeLimitExceeded, ""))...)
	if s.Size() != count+1 {
		t.Errorf("Size %d", s.Size())
	}
}
