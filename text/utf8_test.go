package text

import (
	"testing"
	"unicode/utf8"

	"roster/api"
)

// P1.1
func TestCheck(t *testing.T) {
	for _, c := range []struct {
		s     string
		err   api.Errno
		place int
	}{
		{"", api.OK, 0},
		{"a\xc3\xa9", api.OK, 3},
		{"a\xc3", api.ErrUTF8, 1},
		{"\xc3\xa9\x80", api.ErrUTF8, 2},
		{"\xed\xa0\x80", api.ErrUTF8, 0},
		{"\xed\x9f\xbf", api.OK, 3},
		{"\xf4\x90\x80\x80", api.ErrUTF8, 0},
		{"\xf4\x8f\xbf\xbf", api.OK, 4},
		{"\xf5\x80\x80\x80", api.ErrUTF8, 0},
		{"\xc0\x80", api.ErrUTF8, 0},
		{"\xc1\xbf", api.ErrUTF8, 0},
		{"\xe0\x9f\xbf", api.ErrUTF8, 0},
		{"\xf0\x8f\xbf\xbf", api.ErrUTF8, 0},
		{"ok\xe2\x82\xac!", api.OK, 6},
		{"\xe2\x82", api.ErrUTF8, 0},
		{"a\xf0\x90\x80", api.ErrUTF8, 1},
		{"\x80", api.ErrUTF8, 0},
		{"\x00\x7f", api.OK, 2},
	} {
		if err, place := Check(c.s); err != c.err || place != c.place {
			t.Errorf("Check(%q) = %d, %d; want %d, %d", c.s, err, place, c.err, c.place)
		}
	}
}

// P1.1
func TestCheckAgainstLibrary(t *testing.T) {
	edges := "\x00a\x7f\x80\x8f\x90\x9f\xa0\xbf\xc0\xc1\xc2\xdf\xe0\xe1\xec\xed\xee\xef\xf0\xf1\xf3\xf4\xf5\xff"
	forAll(edges, 4, func(s string) { holdAgainstLibrary(t, s) })
	forAll(edges, 3, func(s string) { holdAgainstLibrary(t, "\u20ac"+s+"b") })
	forAll(allBytes(), 2, func(s string) { holdAgainstLibrary(t, s) })
}

func holdAgainstLibrary(t *testing.T, s string) {
	t.Helper()
	wantErr, wantPlace := api.OK, len(s)
	for !utf8.ValidString(s[:wantPlace]) {
		wantErr, wantPlace = api.ErrUTF8, wantPlace-1
	}
	if err, place := Check(s); err != wantErr || place != wantPlace {
		t.Fatalf("Check(%q) = %d, %d; want %d, %d", s, err, place, wantErr, wantPlace)
	}
}

// P1.1
func TestCheckOfEveryRune(t *testing.T) {
	for r := rune(0); r <= utf8.MaxRune; r++ {
		if !utf8.ValidRune(r) {
			continue
		}
		s := string(r)
		if err, place := Check(s); err != api.OK || place != len(s) {
			t.Fatalf("Check(%q) = %d, %d; want OK, %d", s, err, place, len(s))
		}
	}
}
