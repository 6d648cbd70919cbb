package dn

import (
	"math/rand"
	"testing"

	"roster/api"
)

// all is what a ranging over Up gives.
func all(d api.DN) []api.DN {
	var out []api.DN
	for x := range Up(d) {
		out = append(out, x)
	}
	return out
}

// holdUp holds what was given against d and what stands above it.
func holdUp(t *testing.T, got []api.DN, d api.DN) {
	t.Helper()
	if len(got) != len(d)+1 {
		t.Fatalf("Up(%q) gives %d names; want %d", d, len(got), len(d)+1)
	}
	for i, x := range got {
		if !sameDN(x, d[i:]) {
			t.Fatalf("Up(%q) gives %q as number %d", d, x, i)
		}
	}
}

// fresh is a DN with parts of several pairs, one of none, and one that no text means.
func fresh() api.DN {
	return api.DN{part("cn", "a", "sn", "b"), nil, part("o", "c"), part("no type", "\xff", "x", "y", "z", ""), {}}
}

// P5.8: any DN.
func TestUp(t *testing.T) {
	for _, d := range []api.DN{nil, {}, {nil}, {one("cn", "a")}, {one("cn", "a"), one("o", "b")}, fresh(), long(64), long(65), long(300), {wide(20)}} {
		holdUp(t, all(d), d)
	}
	r := rand.New(rand.NewSource(8))
	for range 200 {
		d := someName(r)
		holdUp(t, all(d), d)
	}
}

// P5.8: stopped at any place, and ranged over again, each time from the beginning.
func TestUpStopped(t *testing.T) {
	d := fresh()
	up := Up(d)
	for stop := range len(d) + 1 {
		given := 0
		for x := range up {
			if !sameDN(x, d[given:]) {
				t.Fatalf("stopped behind %d, Up gives %q as number %d", stop, x, given)
			}
			given++
			if given == stop+1 {
				break
			}
		}
		if given != stop+1 {
			t.Fatalf("Up gives %d names; want %d", given, stop+1)
		}
	}
	var again []api.DN
	for x := range up {
		again = append(again, x)
	}
	holdUp(t, again, d)
}

// P5.8, P0.1: a ranging inside a ranging goes by itself.
func TestUpInsideUp(t *testing.T) {
	d := fresh()
	up := Up(d)
	var outer []api.DN
	for x := range up {
		var inner []api.DN
		for y := range up {
			inner = append(inner, y)
		}
		holdUp(t, inner, d)
		outer = append(outer, x)
	}
	holdUp(t, outer, d)
}

// P5.8: what the caller writes into the DN, or into one of its parts, behind the call is not seen.
func TestUpSeesNoLaterChange(t *testing.T) {
	d := fresh()
	up := Up(d)
	spoilPart(d[0])
	d[2] = part("spoilt", "spoilt")
	d[4] = append(d[4], api.AVA{Type: "spoilt"})
	var got []api.DN
	for x := range up {
		got = append(got, x)
		d[3] = nil
	}
	holdUp(t, got, fresh())
}

// P5.8, P0.1: what is given is new memory; it is written into while the ranging goes on.
func TestUpGivesNewMemory(t *testing.T) {
	d := fresh()
	up := Up(d)
	for range 2 {
		given := 0
		var kept []api.DN
		for x := range up {
			if !sameDN(x, fresh()[given:]) {
				t.Fatalf("Up gives %q as number %d", x, given)
			}
			for _, old := range kept {
				if !spoilt(old) {
					t.Fatalf("Up writes into %q, which it gave before", old)
				}
			}
			for number := range x {
				spoilPart(x[number])
				x[number] = part("spoilt", "spoilt")
			}
			kept = append(kept, x)
			given++
		}
	}
	if !sameDN(d, fresh()) {
		t.Errorf("the DN is %q behind the ranging", d)
	}
}

func spoilt(d api.DN) bool {
	for _, r := range d {
		if len(r) != 1 || r[0].Type != "spoilt" {
			return false
		}
	}
	return true
}

// P5.8, P0.1: the parts of one DN share no memory with each other.
func TestUpGivesPartsByThemselves(t *testing.T) {
	for x := range Up(fresh()) {
		want := fresh()[len(fresh())-len(x):]
		for number := range x {
			spoilPart(x[number])
			if !sameDN(x[number+1:], want[number+1:]) {
				t.Fatalf("the part %d shares memory with one behind it", number)
			}
		}
	}
}
