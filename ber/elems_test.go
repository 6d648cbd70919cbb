package ber

import (
	"slices"
	"testing"

	"roster/api"
)

type placed struct {
	place int
	head  api.Header
}

func given(b string) []placed {
	var out []placed
	for place, h := range Elems(b) {
		out = append(out, placed{place, h})
	}
	return out
}

// P2.6, ordinary inputs, the chapter's example, and wrong inputs.
func TestElems(t *testing.T) {
	outer := func(length int) placed { return placed{0, api.Header{Made: true, Tag: 16, Length: length, Size: 2}} }
	for _, x := range []struct {
		b    string
		want []placed
	}{
		{"\x30\x05\x02\x01\x05\x30\x01", []placed{outer(5), {2, api.Header{Tag: 2, Length: 1, Size: 2}}}},
		{"\x30\x00", []placed{outer(0)}},
		{"\x30\x00\x1f\x00", []placed{outer(0)}}, // what stands behind makes no difference
		{"\x30\x06\xa1\x02\x84\x00\x84\x00", []placed{outer(6), {2, api.Header{Class: c, Made: true, Tag: 1, Length: 2, Size: 2}}, {4, api.Header{Class: c, Tag: 4, Size: 2}}, {6, api.Header{Class: c, Tag: 4, Size: 2}}}},
		{"\x30\x81\x02\x04\x00", []placed{{0, api.Header{Made: true, Tag: 16, Length: 2, Size: 3}}, {3, api.Header{Tag: 4, Size: 2}}}},
		{"\x30\x02\x1f\x00", []placed{outer(2)}},
		{"\x30\x03\x04\x00", nil}, // the outermost itself is short
		{"", nil}, {"\x30", nil}, {"\x1f\x00", nil}, {"\x30\x80", nil}, {"\x30\x85", nil},
	} {
		if got := given(x.b); !slices.Equal(got, x.want) {
			t.Errorf("Elems(%q) gives %v; want %v", x.b, got, x.want)
		}
	}
}

// P2.6, P0.1: stopped at any place it gives no more, and it may be ranged over again, inside a ranging over it too.
func TestElemsStopped(t *testing.T) {
	for _, b := range []string{
		"\x30\x06\xa1\x02\x84\x00\x84\x00",
		"\x30\x08\xa1\x04\x84\x00\x84\x00\x84\x00",
		"\x30\x08\xa1\x04\x84\x00\x84\x00\x1f\x00",
		nested(64, ""), nested(65, ""), nested(3, "\x1f"),
	} {
		want := given(b)
		all := Elems(b)
		for stop := range len(want) {
			var got []placed
			all(func(place int, h api.Header) bool {
				got = append(got, placed{place, h})
				return len(got) <= stop
			})
			if !slices.Equal(got, want[:stop+1]) {
				t.Errorf("Elems(%q), stopped at its element %d, gives %v", b, stop, got)
			}
		}
		i := 0
		for place, h := range all {
			if want[i] != (placed{place, h}) {
				t.Errorf("Elems(%q), ranged over again, gives %d %v as its element %d", b, place, h, i)
			}
			j := 0
			for place, h := range all {
				if want[j] != (placed{place, h}) {
					t.Errorf("Elems(%q), ranged over inside, gives %d %v as its element %d", b, place, h, j)
				}
				if j++; j > i {
					break
				}
			}
			i++
		}
		if i != len(want) {
			t.Errorf("Elems(%q), ranged over with others inside, gives %d elements; want %d", b, i, len(want))
		}
	}
}

// P2.6: a panic of the one who ranges is his own, and is not taken for the end.
func TestElemsLeavesOthersPanics(t *testing.T) {
	for _, mine := range []any{"mine", 7, fault{api.ErrTag, 0}} {
		func() {
			defer func() {
				if r := recover(); r != mine {
					t.Errorf("a panic with %v came out as %v", mine, r)
				}
			}()
			for range Elems("\x30\x02\x04\x00") {
				panic(mine)
			}
			t.Errorf("a panic with %v was swallowed", mine)
		}()
	}
}

// What is no fault of the reader's is never taken for one.
func TestCaughtLeavesOthersPanics(t *testing.T) {
	defer func() {
		if recover() != "other" {
			t.Error("another panic was taken for a fault")
		}
	}()
	caught(func() { panic("other") })
}
