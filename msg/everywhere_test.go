package msg

import (
	"cmp"
	"fmt"
	"math/rand"
	"reflect"
	"slices"
	"strings"
	"sync"
	"testing"

	"roster/api"
)

// roomy is a copy of a value all of whose lists, empty ones too, have spare room that has something in it.
func roomy[T any](v T) T {
	return roomyValue(reflect.ValueOf(v)).Interface().(T)
}

func roomyValue(v reflect.Value) reflect.Value {
	out := reflect.New(v.Type()).Elem()
	switch v.Kind() {
	case reflect.Struct:
		for i := range v.NumField() {
			out.Field(i).Set(roomyValue(v.Field(i)))
		}
	case reflect.Slice:
		out.Set(reflect.MakeSlice(v.Type(), v.Len()+2, v.Len()+2))
		for i := range v.Len() {
			out.Index(i).Set(roomyValue(v.Index(i)))
		}
		for i := v.Len(); i < out.Len(); i++ {
			junk(out.Index(i))
		}
		out.Set(out.Slice(0, v.Len()))
	default:
		out.Set(v)
	}
	return out
}

// junk writes over a value.
func junk(v reflect.Value) {
	switch v.Kind() {
	case reflect.Struct:
		for i := range v.NumField() {
			junk(v.Field(i))
		}
	case reflect.Slice:
		spare := v.Slice(0, v.Cap())
		for i := range spare.Len() {
			junk(spare.Index(i))
		}
		v.SetZero()
	case reflect.String:
		v.SetString("spoilt\xff")
	case reflect.Bool:
		v.SetBool(true)
	default:
		v.SetInt(-77)
	}
}

// spoil writes over all that the lists in a value have, spare room too; the value's own fields stay.
func spoil(v reflect.Value) {
	switch v.Kind() {
	case reflect.Struct:
		for i := range v.NumField() {
			spoil(v.Field(i))
		}
	case reflect.Slice:
		spare := v.Slice(0, v.Cap())
		for i := range spare.Len() {
			junk(spare.Index(i))
		}
	}
}

// everything is all that a value has, spare room too, as a text.
func everything(v any) string {
	out := told(v)
	for _, room := range rooms(reflect.ValueOf(v)) {
		out += "|" + told(room.Interface())
	}
	return out
}

// rooms are all lists in a value, as long as their room.
func rooms(v reflect.Value) []reflect.Value {
	var out []reflect.Value
	switch v.Kind() {
	case reflect.Struct:
		for i := range v.NumField() {
			out = append(out, rooms(v.Field(i))...)
		}
	case reflect.Slice:
		whole := v.Slice(0, v.Cap())
		out = append(out, whole)
		for i := range whole.Len() {
			out = append(out, rooms(whole.Index(i))...)
		}
	}
	return out
}

// holdApart holds that no two lists in these values share memory.
func holdApart(t *testing.T, values ...any) {
	t.Helper()
	type stretch struct{ from, to uintptr }
	var all []stretch
	for _, v := range values {
		for _, room := range rooms(reflect.ValueOf(v)) {
			if room.Len() > 0 {
				all = append(all, stretch{room.Pointer(), room.Pointer() + uintptr(room.Len())*room.Type().Elem().Size()})
			}
		}
	}
	slices.SortFunc(all, func(a, b stretch) int { return cmp.Compare(a.from, b.from) })
	for i := 1; i < len(all); i++ {
		if all[i].from < all[i-1].to {
			t.Fatal("two lists share memory")
		}
	}
}

// toldOf is all that the calls tell of one request and one reply.
func toldOf(q api.Request, p api.Reply) string {
	s, noRequest := EncodeRequest(q)
	back, backErr := DecodeRequest(s)
	w, noReply := EncodeReply(p)
	again, againErr := DecodeReply(w)
	refusal, ok := Refusal(q)
	return fmt.Sprintf("%q %d %s %d\n%q %d %s %d\n%s %v", s, noRequest, told(back), backErr, w, noReply, told(again), againErr, told(refusal), ok)
}

// P0.1: nothing that is handed in is changed, spare room too; asked again, a call answers the same.
func TestNothingIsChanged(t *testing.T) {
	r := rand.New(rand.NewSource(136))
	for range 1000 {
		q, p := someRequest(r), someReply(r)
		if r.Intn(3) == 0 {
			spoilOne(r, &q)
			spoilOne(r, &p)
		}
		q, p = roomy(q), roomy(p)
		beforeQ, beforeP := everything(q), everything(p)
		first := toldOf(q, p)
		if toldOf(q, p) != first {
			t.Fatalf("asked again of %s or %s, a call answers something else", told(q), told(p))
		}
		if everything(q) != beforeQ || everything(p) != beforeP {
			t.Fatalf("%s or %s was changed", beforeQ, beforeP)
		}
	}
}

// P0.1: what the caller writes later into what was handed in is seen in no answer, and what is written into an answer in no later one.
func TestNothingIsKept(t *testing.T) {
	r := rand.New(rand.NewSource(137))
	for range 1000 {
		q, p := roomy(someRequest(r)), roomy(someReply(r))
		s, _ := EncodeRequest(q)
		w, _ := EncodeReply(p)
		refusal, ok := Refusal(q)
		before := fmt.Sprintf("%q %q %s %v", s, w, told(refusal), ok)
		wantQ, wantP := told(q), told(p)
		spoil(reflect.ValueOf(q))
		spoil(reflect.ValueOf(p))
		if after := fmt.Sprintf("%q %q %s %v", s, w, told(refusal), ok); after != before {
			t.Fatalf("the answers\n%s became\n%s", before, after)
		}
		for range 2 {
			back, _ := DecodeRequest(s)
			again, _ := DecodeReply(w)
			if told(back) != wantQ || told(again) != wantP {
				t.Fatalf("%s and %s came back as %s and %s", wantQ, wantP, told(back), told(again))
			}
			spoil(reflect.ValueOf(back))
			spoil(reflect.ValueOf(again))
		}
	}
}

// P0.1: no two lists of one answer, and no list of two answers, share memory, spare room too.
func TestAnswersShareNothing(t *testing.T) {
	r := rand.New(rand.NewSource(138))
	requests, replies := full()
	for range 300 {
		requests, replies = append(requests, someRequest(r)), append(replies, someReply(r))
	}
	for i := range requests {
		s, _ := EncodeRequest(requests[i])
		one, _ := DecodeRequest(s)
		other, _ := DecodeRequest(s)
		holdApart(t, one, other, requests[i])
	}
	for i := range replies {
		s, _ := EncodeReply(replies[i])
		one, _ := DecodeReply(s)
		other, _ := DecodeReply(s)
		holdApart(t, one, other, replies[i])
	}
	same := api.Attr{Desc: "o", Values: []string{"a", "b", "c"}}
	s, _ := EncodeReply(api.Reply{ID: 1, Kind: api.ReplyEntry, Attributes: []api.Attr{same, same, same, {Desc: "p"}, same}})
	p, _ := DecodeReply(s)
	holdApart(t, p)
	// Who goes on with one list is seen in no other.
	want := told(p.Attributes[1:])
	_ = append(p.Attributes[0].Values, "more", "more", "more")
	if told(p.Attributes[1:]) != want {
		t.Error("a list grows into another")
	}
}

// emptied is a copy of a value in which every list without members is nil, or every one is empty.
func emptied[T any](v T, asNil bool) T {
	out := roomy(v)
	var walk func(v reflect.Value)
	walk = func(v reflect.Value) {
		switch v.Kind() {
		case reflect.Struct:
			for i := range v.NumField() {
				walk(v.Field(i))
			}
		case reflect.Slice:
			if v.Len() == 0 {
				v.SetZero()
				if !asNil {
					v.Set(reflect.MakeSlice(v.Type(), 0, 0))
				}
			}
			for i := range v.Len() {
				walk(v.Index(i))
			}
		}
	}
	walk(reflect.ValueOf(&out).Elem())
	return out
}

// P0.1, P13.2, P13.3: nil and empty lists are the same, those of fields that the kind doesn't have too.
func TestNilAndEmpty(t *testing.T) {
	r := rand.New(rand.NewSource(139))
	requests, replies := full()
	for range 300 {
		requests, replies = append(requests, someRequest(r)), append(replies, someReply(r))
	}
	for i := range replies {
		q, p := requests[i], replies[i]
		asNil, asEmpty := toldOf(emptied(q, true), emptied(p, true)), toldOf(emptied(q, false), emptied(p, false))
		if asNil != asEmpty || asNil != toldOf(roomy(q), roomy(p)) {
			t.Errorf("of %s or %s nil and empty lists are told apart:\n%s\n%s", told(q), told(p), asNil, asEmpty)
		}
	}
	q := emptied(api.Request{ID: 1, Kind: api.KindUnbind}, false)
	if s, err := EncodeRequest(q); err != api.OK || s != fromHex("30 05 02 01 01 42 00") {
		t.Errorf("an unbind with empty lists: %x, %d", s, err)
	}
	p := emptied(api.Reply{ID: 2, Kind: api.ReplyDone}, false)
	if s, err := EncodeReply(p); err != api.OK || s != fromHex("30 0c 02 01 02 65 07 0a 01 00 04 00 04 00") {
		t.Errorf("a done with empty lists: %x, %d", s, err)
	}
	add := api.Request{ID: 1, Kind: api.KindAdd, Attributes: []api.Attr{{Desc: "o", Values: []string{}}}}
	if s, err := EncodeRequest(add); err != api.ErrCraft || s != "" {
		t.Errorf("an add with an empty list of values: %x, %d", s, err)
	}
}

// P0.1: no call panics or goes on for ever, whatever it is given.
func TestNoneRefused(t *testing.T) {
	r := rand.New(rand.NewSource(140))
	for range 5000 {
		q, p := someRequest(r), someReply(r)
		for range r.Intn(6) {
			spoilOne(r, &q)
			spoilOne(r, &p)
		}
		toldOf(q, p)
		DecodeRequest(someBytes(r, 40))
		DecodeReply(someBytes(r, 40))
		Notice(someBytes(r, 5))
	}
	for _, s := range []string{strings.Repeat("\x30\x80", 1000), strings.Repeat("\x30\x7e", 63), strings.Repeat("\xa0", 100000), "\x30\x84\xff\xff\xff\xff"} {
		if _, err := DecodeRequest(s); err != api.ErrMessage {
			t.Errorf("DecodeRequest(%.20x) : %d", s, err)
		}
		if _, err := DecodeReply(s); err != api.ErrMessage {
			t.Errorf("DecodeReply(%.20x) : %d", s, err)
		}
	}
}

// P0.1: many may call at once.
func TestManyAtOnce(t *testing.T) {
	requests, replies := full()
	var want []string
	for i := range replies {
		want = append(want, toldOf(requests[i], replies[i]))
	}
	var group sync.WaitGroup
	for range 8 {
		group.Go(func() {
			for range 20 {
				for i := range replies {
					if got := toldOf(requests[i], replies[i]); got != want[i] {
						t.Errorf("it told %s, want %s", got, want[i])
					}
				}
			}
		})
	}
	group.Wait()
}
