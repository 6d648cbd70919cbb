package dn

import (
	"math/rand"
	"slices"
	"sync"
	"testing"

	"roster/api"
)

// room is a DN whose lists have spare room with something in it.
func room(r *rand.Rand) api.DN {
	d := someName(r)
	for number := range d {
		d[number] = append(d[number], part("spare", "room", "more", "room")...)[:len(d[number])]
		r.Shuffle(len(d[number]), func(i, j int) { d[number][i], d[number][j] = d[number][j], d[number][i] })
	}
	return append(d, one("spare", "part"), one("more", "parts"))[:len(d)]
}

// deep is a copy of all of it, spare room too.
func deep(d api.DN) api.DN {
	out := slices.Clone(d[:cap(d)])
	for number, r := range out {
		out[number] = slices.Clone(r[:cap(r)])
	}
	return out
}

// P0.1: no call changes the lists that it is handed, spare room too, whether it takes or refuses them.
func TestCallsChangeNothing(t *testing.T) {
	r := rand.New(rand.NewSource(9))
	for i := range 2000 {
		d := room(r)
		if i%3 == 0 && len(d) > 0 && len(d[0]) > 0 {
			d[0][len(d[0])-1] = api.AVA{Type: pick(r, "", "cn", "1"), Value: pick(r, "\xff", "a")}
		}
		before := deep(d)
		Print(d)
		Key(d)
		for _, x := range d {
			Part(x)
		}
		for x := range Up(d) {
			Print(x)
		}
		if !sameDN(deep(d), before) {
			t.Fatalf("%q became %q", before, deep(d))
		}
	}
}

// P0.1: no call on keys changes them.
func TestKeysAreNotChanged(t *testing.T) {
	a := []string{"b", "a", "c", "spare"}
	b := []string{"b", "a", "d", "spare"}
	keepA, keepB := slices.Clone(a), slices.Clone(b)
	Compare(a[:3], b[:3])
	Within(a[:2], b[:3])
	Parent(a[:3])
	if !slices.Equal(a, keepA) || !slices.Equal(b, keepB) {
		t.Errorf("%q, %q", a, b)
	}
}

// P5.5, P0.1: a key is new memory, and isn't seen to change with the name.
func TestKeysAreNewMemory(t *testing.T) {
	d := api.DN{part("cn", "a", "sn", "b"), one("o", "c"), one("dc", "d")}
	want := []string{"dc=d", "o=c", "cn=a+sn=b"}
	first, _ := Key(d)
	second, _ := Key(d)
	for i := range first[:cap(first)] {
		first[:cap(first)][i] = "spoilt"
	}
	spoilPart(d[0])
	d[1], d[2] = nil, nil
	if !slices.Equal(second, want) {
		t.Errorf("the key is %q", second)
	}
	const s = "cn=a+sn=b,o=c,dc=d"
	third, _ := KeyOf(s)
	clear(third[:cap(third)])
	if fourth, _ := KeyOf(s); !slices.Equal(fourth, want) {
		t.Errorf("the key is %q", fourth)
	}
}

// P0.1: a list that the caller writes into ahead of a second call is read anew.
func TestNothingIsKept(t *testing.T) {
	d := api.DN{one("cn", "a"), one("o", "b")}
	for _, value := range []string{"a", "b", "\xff", "a,", ""} {
		d[0][0].Value = value
		holdName(t, d)
	}
	d[0] = nil
	holdName(t, d)
	d[0] = one("sn", "x")
	holdName(t, d)
}

// P0.1: calls at the same time do not meet.
func TestCallsAreAlone(t *testing.T) {
	texts := []string{"cn=a+sn=b,o=c", "cn=a,", `cn=\2c\c3\a9 ,o=b`, "cn=#040148", "cn=#", "", "cn=a;"}
	d := fresh()
	up := Up(d)
	var group sync.WaitGroup
	for i := range 8 {
		group.Go(func() {
			for j := range 100 {
				s := texts[(i+j)%len(texts)]
				want, number, place := slowParse(s)
				got, err := Parse(s)
				if n, p := Fault(err); !sameDN(got, want) || n != number || p != place {
					t.Errorf("Parse(%q) = %q, %v", s, got, err)
				}
				given := 0
				for x := range up {
					if !sameDN(x, d[given:]) {
						t.Errorf("Up gives %q as number %d", x, given)
					}
					given++
				}
			}
		})
	}
	group.Wait()
}
