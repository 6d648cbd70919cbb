package ber

import (
	"slices"
	"testing"

	"roster/api"
)

// P2.4, ordinary inputs and the chapter's examples: contents are not looked into.
func TestSplit(t *testing.T) {
	for _, x := range []struct {
		b    string
		want []api.Elem
	}{
		{"", nil},
		{"\x04\x01a\x30\x02\xff\xff", []api.Elem{elem(u, false, 4, "a"), elem(u, true, 16, "\xff\xff")}},
		{"\x04\x81\x01a\xff\xff"[:4], []api.Elem{elem(u, false, 4, "a")}},
		{"\xbe\x00\x5e\x00\x00\x00", []api.Elem{elem(c, true, 30, ""), elem(a, false, 30, ""), elem(u, false, 0, "")}},
		{nested(65, ""), []api.Elem{elem(u, true, 16, nested(64, ""))}}, // the depth is not asked
	} {
		if list, err, at := Split(x.b); !slices.Equal(list, x.want) || err != api.OK || at != 0 {
			t.Errorf("Split(%q) = %v, %d, %d; want %v", x.b, list, err, at, x.want)
		}
	}
}

// P2.4, wrong inputs: what is missing is ErrShort of every one of them.
func TestSplitRefuses(t *testing.T) {
	for _, x := range []struct {
		b  string
		e  api.Errno
		at int
	}{
		{"\x04\x01a\x04", api.ErrShort, 4},
		{"\x04\x01a\x04\x82\x00", api.ErrShort, 6},
		{"\x04\x01a\x04\x02b", api.ErrShort, 6},
		{"\x04", api.ErrShort, 1},
		{"\x1f", api.ErrTag, 0},
		{"\x04\x00\x3f\x80", api.ErrTag, 2},
		{"\x04\x00\x04\x80", api.ErrIndefinite, 3},
		{"\x04\x00\x04\x85", api.ErrLength, 3},
		{"\x04\x84\xff\xff\xff\xff", api.ErrShort, 6},
	} {
		if list, err, at := Split(x.b); len(list) != 0 || err != x.e || at != x.at {
			t.Errorf("Split(%q) = %v, %d, %d; want %d, %d", x.b, list, err, at, x.e, x.at)
		}
	}
}
