package text

import (
	"encoding/hex"
	"strings"
	"testing"

	"roster/api"
)

// read is what a reading call answers.
type read struct {
	in, want string
	err      api.Errno
	place    int
}

func checkRead(t *testing.T, what string, f func(string) (string, api.Errno, int), c read) {
	t.Helper()
	if got, err, place := f(c.in); got != c.want || err != c.err || place != c.place {
		t.Fatalf("%s(%q) = %q, %d, %d; want %q, %d, %d", what, c.in, got, err, place, c.want, c.err, c.place)
	}
}

// P1.6
func TestHex(t *testing.T) {
	checkTurned(t, "Hex", Hex, []turned{
		{"", ""},
		{"\x00\xaf!", "00af21"},
		{"\x0f\xf0", "0ff0"},
		{allBytes(), hex.EncodeToString([]byte(allBytes()))},
	})
}

// P1.7
func TestUnhex(t *testing.T) {
	for _, c := range []read{
		{"", "", api.OK, 0},
		{"00aF21", "\x00\xaf!", api.OK, 6},
		{"abc", "", api.ErrHex, 3},
		{"a", "", api.ErrHex, 1},
		{"0g1", "", api.ErrHex, 1},
		{"g", "", api.ErrHex, 0},
		{"00:1", "", api.ErrHex, 2},
		{"00 ", "", api.ErrHex, 2},
		{"0011\xff", "", api.ErrHex, 4},
		{"0011G", "", api.ErrHex, 4},
		{"0x", "", api.ErrHex, 1},
		{"fedcbaFEDCBA9876543210", "\xfe\xdc\xba\xfe\xdc\xba\x98\x76\x54\x32\x10", api.OK, 22},
	} {
		checkRead(t, "Unhex", Unhex, c)
	}
}

// P1.7
func TestUnhexOfEveryByte(t *testing.T) {
	for i := range 256 {
		b := string([]byte{byte(i)})
		worth := strings.Index("0123456789abcdef", strings.ToLower(b))
		if i > 127 || worth < 0 {
			checkRead(t, "Unhex", Unhex, read{b + "0", "", api.ErrHex, 0})
			checkRead(t, "Unhex", Unhex, read{"0" + b, "", api.ErrHex, 1})
			continue
		}
		checkRead(t, "Unhex", Unhex, read{b + "0", string([]byte{byte(worth << 4)}), api.OK, 2})
		checkRead(t, "Unhex", Unhex, read{"f" + b, string([]byte{byte(0xf0 | worth)}), api.OK, 2})
	}
}

// P1.6, P1.7
func TestHexThereAndBack(t *testing.T) {
	forAll(allBytes(), 2, func(s string) {
		h := Hex(s)
		checkRead(t, "Unhex", Unhex, read{h, s, api.OK, len(h)})
		checkRead(t, "Unhex", Unhex, read{strings.ToUpper(h), s, api.OK, len(h)})
	})
}
