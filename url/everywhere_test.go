package url

import (
	"cmp"
	"reflect"
	"slices"
	"strings"
	"sync"
	"testing"

	"roster/api"
)

// roomy is a copy of a value all of whose lists, empty ones too, have spare room that has something in it.
func roomy[T any](v T) T {
	return roomyValue(reflect.ValueOf(v)).Interface().(T)
}

func roomyValue(v reflect.Value) reflect.Value {
	out := reflect.New(v.Type()).Elem()
	switch v.Kind() {
	case reflect.Struct:
		for i := range v.NumField() {
			out.Field(i).Set(roomyValue(v.Field(i)))
		}
	case reflect.Slice:
		out.Set(reflect.MakeSlice(v.Type(), v.Len()+2, v.Len()+2))
		for i := range v.Len() {
			out.Index(i).Set(roomyValue(v.Index(i)))
		}
		for i := v.Len(); i < out.Len(); i++ {
			junk(out.Index(i))
		}
		out.Set(out.Slice(0, v.Len()))
	default:
		out.Set(v)
	}
	return out
}

// junk writes over a value.
func junk(v reflect.Value) {
	switch v.Kind() {
	case reflect.Struct:
		for i := range v.NumField() {
			junk(v.Field(i))
		}
	case reflect.Slice:
		spoil(v)
		v.SetZero()
	case reflect.String:
		v.SetString("spoilt\xff")
	case reflect.Bool:
		v.SetBool(true)
	default:
		v.SetInt(-77)
	}
}

// spoil writes over all that the lists in a value have, spare room too; the value's own fields stay.
func spoil(v reflect.Value) {
	switch v.Kind() {
	case reflect.Struct:
		for i := range v.NumField() {
			spoil(v.Field(i))
		}
	case reflect.Slice:
		spare := v.Slice(0, v.Cap())
		for i := range spare.Len() {
			junk(spare.Index(i))
		}
	}
}

// rooms are all lists in a value, as long as their room.
func rooms(v reflect.Value) []reflect.Value {
	var out []reflect.Value
	switch v.Kind() {
	case reflect.Struct:
		for i := range v.NumField() {
			out = append(out, rooms(v.Field(i))...)
		}
	case reflect.Slice:
		whole := v.Slice(0, v.Cap())
		out = append(out, whole)
		for i := range whole.Len() {
			out = append(out, rooms(whole.Index(i))...)
		}
	}
	return out
}

// allOf is all that a value has, spare room too, as a text.
func allOf(v any) string {
	out := told(v)
	for _, room := range rooms(reflect.ValueOf(v)) {
		out += "|" + told(room.Interface())
	}
	return out
}

// holdApart holds that no two lists in these values share memory.
func holdApart(t *testing.T, values ...any) {
	t.Helper()
	type stretch struct{ from, to uintptr }
	var all []stretch
	for _, v := range values {
		for _, room := range rooms(reflect.ValueOf(v)) {
			if room.Len() > 0 {
				all = append(all, stretch{room.Pointer(), room.Pointer() + uintptr(room.Len())*room.Type().Elem().Size()})
			}
		}
	}
	slices.SortFunc(all, func(a, b stretch) int { return cmp.Compare(a.from, b.from) })
	for i := 1; i < len(all); i++ {
		if all[i].from < all[i-1].to {
			t.Fatal("two lists share memory")
		}
	}
}

// answers are all that the calls answer of a URL, and of the search that it asks for.
func answers(u api.URL) []any {
	s, printed := Print(u)
	read, parsed, at := Parse(s)
	q, asked := Search(u)
	back, from := From(q)
	return []any{Escape(u.DN), s, printed, read, parsed, at, q, asked, back, from, Same(u, u), Same(u, back)}
}

func toldAnswers(list []any) string {
	var out strings.Builder
	for _, v := range list {
		tell(&out, reflect.ValueOf(v))
		out.WriteString("\n")
	}
	return out.String()
}

// someURL is one that is made well, most often.
func (m maker) someURL() api.URL {
	if m.Intn(4) == 0 {
		return m.odd()
	}
	return m.url()
}

// P18.8, P0.1: nothing that is handed in is changed, spare room too; asked again, a call answers the same.
func TestNothingIsChanged(t *testing.T) {
	m := newMaker(186)
	for range 3000 {
		u, v := roomy(m.someURL()), roomy(m.someURL())
		q := roomy(m.search())
		beforeU, beforeV, beforeQ := allOf(u), allOf(v), allOf(q)
		first := toldAnswers(answers(u))
		one, _ := From(q)
		Same(u, v)
		other, _ := From(q)
		if toldAnswers(answers(u)) != first || told(one) != told(other) {
			t.Fatalf("asked again of %s or %s, a call answers something else", told(u), told(q))
		}
		if allOf(u) != beforeU || allOf(v) != beforeV || allOf(q) != beforeQ {
			t.Fatalf("%s, %s or %s was changed", beforeU, beforeV, beforeQ)
		}
	}
}

// P18.8, P0.1: an answer's lists are new memory: they share none with what was handed in, nor with each other, nor with another answer.
func TestAnswersMemory(t *testing.T) {
	m := newMaker(187)
	for range 3000 {
		u, q := roomy(m.someURL()), roomy(m.search())
		first, second := answers(u), answers(u)
		one, _ := From(q)
		other, _ := From(q)
		want, wantFrom := toldAnswers(first), told(one)
		holdApart(t, slices.Concat(first, second, []any{one, other, u, q})...)
		spoil(reflect.ValueOf(u))
		spoil(reflect.ValueOf(q))
		if toldAnswers(first) != want || toldAnswers(second) != want {
			t.Fatalf("by what was written into a URL the answers\n%sbecame\n%sand\n%s", want, toldAnswers(first), toldAnswers(second))
		}
		if told(one) != wantFrom || told(other) != wantFrom {
			t.Fatalf("by what was written into a search %s became %s and %s", wantFrom, told(one), told(other))
		}
	}
}

// P18.8, P0.1: what is written into one answer, spare room too, is seen in no other, then or later.
func TestAnswersShareNothing(t *testing.T) {
	m := newMaker(188)
	for range 500 {
		u := m.url()
		before := allOf(u)
		want := toldAnswers(answers(u))
		all := [][]any{answers(u), answers(u), answers(u)}
		for i, list := range all {
			for _, v := range list {
				spoil(reflect.ValueOf(v))
			}
			for _, later := range append(all[i+1:], answers(u)) {
				if toldAnswers(later) != want {
					t.Fatalf("by another answer's change the answers\n%sbecame\n%s", want, toldAnswers(later))
				}
			}
		}
		if allOf(u) != before {
			t.Fatalf("an answer's change changed %s", before)
		}
	}
	// The filter of everything is the answer's own too.
	q, _ := Search(api.URL{})
	q.Filter[0].Desc = "spoilt"
	if other, _ := Search(api.URL{}); told(other) != told(api.Search{Filter: everyEntry()}) {
		t.Errorf("Search answers %s", told(other))
	}
}

// P0.1: nil and empty lists are the same.
func TestNilAndEmpty(t *testing.T) {
	m := newMaker(189)
	for range 2000 {
		u := m.someURL()
		v := u
		v.Attributes, v.Filter, v.Extensions = append([]string{}, u.Attributes...), append(api.Filter{}, u.Filter...), append([]api.Extension{}, u.Extensions...)
		for i, n := range v.Filter {
			v.Filter[i].Parts.Any = append([]string{}, n.Parts.Any...)
		}
		if toldAnswers(answers(u)) != toldAnswers(answers(v)) {
			t.Fatalf("of %s nil and empty lists are told apart", told(u))
		}
		holdSame(t, u, v)
	}
}

// anyNumber is one of any size, below 0 too.
func (m maker) anyNumber() int {
	return int(m.Uint64()>>m.Intn(64)) * (1 - 2*m.Intn(2))
}

// anything is a URL of any texts, numbers and lists.
func (m maker) anything() api.URL {
	u := api.URL{Host: m.someBytes(3), Port: m.anyNumber(), DN: m.someBytes(3), Scope: api.Scope(m.anyNumber()), HasScope: m.Intn(2) == 0}
	for range m.Intn(3) {
		u.Attributes = append(u.Attributes, m.someBytes(3))
		u.Extensions = append(u.Extensions, api.Extension{Critical: m.Intn(2) == 0, Type: m.someBytes(2), Value: m.someBytes(2), HasValue: m.Intn(2) == 0})
		u.Filter = append(u.Filter, api.FilterNode{Depth: m.anyNumber(), Op: api.FilterOp(m.anyNumber()), Desc: m.someBytes(2), Value: m.someBytes(2), Parts: api.Pattern{Any: []string{m.someBytes(2)}}, Rule: m.someBytes(2), DNAttrs: m.Intn(2) == 0})
	}
	return u
}

// P18.8: no call panics, at any argument; and what is told is what the chapter says.
func TestAnyArguments(t *testing.T) {
	m := newMaker(190)
	for range 2000 {
		u, v := m.anything(), m.someURL()
		// One field of any kind in a URL that is well made else.
		for place := range reflect.TypeFor[api.URL]().NumField() {
			w := v
			reflect.ValueOf(&w).Elem().Field(place).Set(reflect.ValueOf(u).Field(place))
			holdURL(t, w)
			holdSame(t, v, w)
			holdSearch(t, api.Search{Base: w.DN, Scope: w.Scope, Deref: m.anyNumber(), SizeLimit: m.anyNumber(), TimeLimit: m.anyNumber(), Filter: w.Filter, Attributes: w.Attributes})
		}
		holdURL(t, u)
		holdSame(t, u, v)
		holdParsed(t, m.someBytes(30))
		s := m.someBytes(30)
		want, number, place := slowUnescape(s)
		holdUnescaped(t, s, want, number, place)
	}
}

// P18.8: long texts and lists.
func TestLongTexts(t *testing.T) {
	const many = 20000
	long := strings.Repeat("%41,?", many)
	holdUnescaped(t, long, strings.Repeat("A,?", many), api.OK, 0)
	holdUnescaped(t, long+"%", "", api.ErrPercent, 5*many)
	if got := Escape(strings.Repeat("a b", many)); got != strings.Repeat("a%20b", many) {
		t.Error("a long text is escaped otherwise")
	}
	holdRead(t, "ldap:///?"+strings.Repeat("cn,", many)+"sn", api.URL{Attributes: append(slices.Repeat([]string{"cn"}, many), "sn")})
	holdRefused(t, "ldap:///?"+strings.Repeat("cn,", many), api.ErrURLDesc, 9+3*many)
	holdRefused(t, "ldap:///????"+strings.Repeat("x=,", many), api.ErrExtension, 12+3*many)
	holdRefused(t, "ldap:///????"+strings.Repeat("x=,", many)+"x=?", api.ErrPercent, 12+3*many+2)
	holdRefused(t, "ldap:///"+strings.Repeat("?", many), api.ErrExtension, 12)
	holdRefused(t, "ldap://"+strings.Repeat("[", many), api.ErrHost, 7)
	holdRefused(t, "ldap://h:"+strings.Repeat("9", many), api.ErrHost, 9)
	holdRefused(t, "ldap:///???"+strings.Repeat("(!", many), api.ErrURLFilter, 11)
	holdRead(t, "ldap:///???(cn="+strings.Repeat("%41", many)+")", api.URL{Filter: one(node(api.Equality, "cn", strings.Repeat("A", many)))})
}

// P18.8, P0.1: many may call at once, with the same lists.
func TestManyAtOnce(t *testing.T) {
	m := newMaker(191)
	var all []api.URL
	var want []string
	for range 40 {
		u := m.someURL()
		all, want = append(all, u), append(want, toldAnswers(answers(u)))
	}
	var group sync.WaitGroup
	for range 8 {
		group.Go(func() {
			for i, u := range all {
				if got := toldAnswers(answers(u)); got != want[i] {
					t.Errorf("it told %s, not %s", got, want[i])
				}
			}
		})
	}
	group.Wait()
}
