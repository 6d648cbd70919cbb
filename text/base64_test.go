package text

import (
	"encoding/base64"
	"strings"
	"testing"

	"roster/api"
)

// P1.8
func TestBase64(t *testing.T) {
	checkTurned(t, "Base64", Base64, []turned{
		{"", ""},
		{"f", "Zg=="},
		{"fo", "Zm8="},
		{"foo", "Zm9v"},
		{"foof", "Zm9vZg=="},
		{"\xff\xfe", "//4="},
		{"\x00", "AA=="},
		{"\xfb\xef\xbe", "++++"},
	})
	forAll(allBytes(), 2, func(s string) { holdBase64(t, s) })
	for front := range 4 {
		holdBase64(t, strings.Repeat("x", front)+allBytes()+strings.Repeat(allBytes(), 3))
	}
}

func holdBase64(t *testing.T, s string) {
	t.Helper()
	want := base64.StdEncoding.EncodeToString([]byte(s))
	if got := Base64(s); got != want {
		t.Fatalf("Base64(%q) = %q; want %q", s, got, want)
	}
	checkRead(t, "Unbase64", Unbase64, read{want, s, api.OK, len(want)})
}

// P1.9
func TestUnbase64(t *testing.T) {
	for _, c := range []read{
		{"", "", api.OK, 0},
		{"Zm8=", "fo", api.OK, 4},
		{"Zm9vZg==", "foof", api.OK, 8},
		{"Zh==", "", api.ErrBase64, 2},
		{"Zg=", "", api.ErrBase64, 3},
		{"Zg=x", "", api.ErrBase64, 3},
		{"Zg==Z", "", api.ErrBase64, 4},
		{"Zg==Zg==", "", api.ErrBase64, 4},
		{"Zg===", "", api.ErrBase64, 4},
		{"Zm8=Zm9v", "", api.ErrBase64, 4},
		{"Zm9v\n", "", api.ErrBase64, 4},
		{"Zm\n9v", "", api.ErrBase64, 2},
		{"Z", "", api.ErrBase64, 1},
		{"Zm", "", api.ErrBase64, 2},
		{"Zm9", "", api.ErrBase64, 3},
		{"=", "", api.ErrBase64, 0},
		{"Z===", "", api.ErrBase64, 1},
		{"Zm9=", "", api.ErrBase64, 3},
		{"Zm9v=", "", api.ErrBase64, 4},
		{"Zm9vZm9", "", api.ErrBase64, 7},
		{"Zm9vZ-_v", "", api.ErrBase64, 5},
		{"\xff", "", api.ErrBase64, 0},
	} {
		checkRead(t, "Unbase64", Unbase64, c)
	}
}

// P1.9
func TestUnbase64OfEveryByte(t *testing.T) {
	for i := range 256 {
		b := string([]byte{byte(i)})
		holdUnbase64(t, b+"AAA")
		holdUnbase64(t, "A"+b+"AA")
		holdUnbase64(t, "A"+b+"==")
		holdUnbase64(t, "AA"+b+"A")
		holdUnbase64(t, "AA"+b+"=")
		holdUnbase64(t, "AAA"+b)
		holdUnbase64(t, "AA=="+b)
	}
}

// P1.9
func TestUnbase64OfShortTexts(t *testing.T) {
	forAll("AQEhg/=\n", 6, func(s string) { holdUnbase64(t, s) })
}

// holdUnbase64 holds Unbase64 against the promise's own words, by way of the library.
func holdUnbase64(t *testing.T, s string) {
	t.Helper()
	place := len(s)
	for !front(s[:place]) {
		place--
	}
	if want, ok := decoded(s); ok {
		checkRead(t, "Unbase64", Unbase64, read{s, want, api.OK, len(s)})
	} else {
		checkRead(t, "Unbase64", Unbase64, read{s, "", api.ErrBase64, place})
	}
}

// front tells whether s is the front of some base64 text: if it is, one of these ends makes it whole.
func front(s string) bool {
	for _, end := range []string{"", "A", "AA", "AAA", "=", "=="} {
		if _, ok := decoded(s + end); ok {
			return true
		}
	}
	return false
}

// decoded writes again what the library read, as the library takes line feeds and returns.
func decoded(s string) (string, bool) {
	b, err := base64.StdEncoding.Strict().DecodeString(s)
	if err != nil || base64.StdEncoding.EncodeToString(b) != s {
		return "", false
	}
	return string(b), true
}
