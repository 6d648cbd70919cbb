package url

import (
	"fmt"
	"strings"
	"testing"

	"roster/api"
)

// The sets of bytes, written out.
const (
	quietBytes = "ABCDEFGHIJKLMNOPQRSTUVWXYZabcdefghijklmnopqrstuvwxyz0123456789-._~!$&'()*+;=:@/"
	plainBytes = quietBytes + "\"#,<>?[\\]^`{|}"
	hexSigns   = "0123456789abcdefABCDEF"
)

func holdUnescaped(t *testing.T, s, want string, number api.Errno, place int) {
	t.Helper()
	if got, err, at := Unescape(s); got != want || err != number || at != place {
		t.Errorf("Unescape(%q) = %q, %d, %d; want %q, %d, %d", s, got, err, at, want, number, place)
	}
}

// P18.1: every byte, by itself and between others.
func TestEscapeEveryByte(t *testing.T) {
	quiets := 0
	for b := range 256 {
		s := string([]byte{byte(b)})
		want := fmt.Sprintf("%%%02X", b)
		if strings.Contains(quietBytes, s) {
			want = s
			quiets++
		}
		if got := Escape(s); got != want {
			t.Errorf("Escape(%q) = %q, want %q", s, got, want)
		}
		if got := Escape("a" + s + s + ","); got != "a"+want+want+"%2C" {
			t.Errorf("Escape of %q among others is %q", s, got)
		}
	}
	if quiets != 79 {
		t.Errorf("%d quiet bytes", quiets)
	}
}

// P18.1: the chapter's example, nothing, and escapes that are escaped once more.
func TestEscape(t *testing.T) {
	for s, want := range map[string]string{
		"": "", "o=a b,c=\u00e9": "o=a%20b%2Cc=%C3%A9", "%": "%25", "%41": "%2541", "%2C": "%252C", "?,": "%3F%2C", "\x00\xff": "%00%FF", "\xab\xcd\xef": "%AB%CD%EF",
	} {
		if got := Escape(s); got != want {
			t.Errorf("Escape(%q) = %q, want %q", s, got, want)
		}
	}
}

// P18.2: every byte that isn't escaped: the plain ones are themselves, the others a fault at their place.
func TestUnescapeEveryByte(t *testing.T) {
	plains := 0
	for b := range 256 {
		s := string([]byte{byte(b)})
		if strings.Contains(plainBytes, s) {
			plains++
			holdUnescaped(t, s, s, api.OK, 0)
			holdUnescaped(t, "%41"+s+s, "A"+s+s, api.OK, 0)
			continue
		}
		holdUnescaped(t, s, "", api.ErrPercent, 0)
		holdUnescaped(t, "%41b"+s, "", api.ErrPercent, 4)
		holdUnescaped(t, "ab"+s+"xy%", "", api.ErrPercent, 2)
	}
	if plains != 93 {
		t.Errorf("%d plain bytes", plains)
	}
}

// P18.2: a percent sign with every two bytes behind it; with one, and with none.
func TestUnescapeEveryCode(t *testing.T) {
	for high := range 256 {
		for low := range 256 {
			s := "%" + string([]byte{byte(high), byte(low)})
			h, l := strings.IndexByte(hexSigns, byte(high)), strings.IndexByte(hexSigns, byte(low))
			if h < 0 || l < 0 {
				holdUnescaped(t, "x"+s, "", api.ErrPercent, 1)
				continue
			}
			worth := func(sign int) int {
				if sign > 15 {
					return sign - 6
				}
				return sign
			}
			want := string([]byte{byte(16*worth(h) + worth(l))})
			holdUnescaped(t, s, want, api.OK, 0)
			holdUnescaped(t, "x"+s+s, "x"+want+want, api.OK, 0)
		}
		one := "%" + string([]byte{byte(high)})
		holdUnescaped(t, one, "", api.ErrPercent, 0)
		holdUnescaped(t, "%41"+one, "", api.ErrPercent, 3)
	}
	holdUnescaped(t, "%", "", api.ErrPercent, 0)
	holdUnescaped(t, "a%", "", api.ErrPercent, 1)
}

// P18.2: the chapter's examples, and which of two faults is told.
func TestUnescape(t *testing.T) {
	holdUnescaped(t, "", "", api.OK, 0)
	holdUnescaped(t, "a%2cb%2C,?", "a,b,,?", api.OK, 0)
	holdUnescaped(t, "a b", "", api.ErrPercent, 1)
	holdUnescaped(t, "a%2", "", api.ErrPercent, 1)
	holdUnescaped(t, "a%2x", "", api.ErrPercent, 1)
	holdUnescaped(t, "%2541", "%41", api.OK, 0) // what an escape says isn't read again
	holdUnescaped(t, "%00%fF%7f%20", "\x00\xff\x7f ", api.OK, 0)
	holdUnescaped(t, "a%2 b", "", api.ErrPercent, 1) // the percent sign is nearer to the front
	holdUnescaped(t, "a b%2", "", api.ErrPercent, 1)
	holdUnescaped(t, "ab %", "", api.ErrPercent, 2)
	holdUnescaped(t, "ab% ", "", api.ErrPercent, 2)
	holdUnescaped(t, "ab%\xff", "", api.ErrPercent, 2)
	holdUnescaped(t, "%%41", "", api.ErrPercent, 0)
	holdUnescaped(t, "%4%41", "", api.ErrPercent, 0)
	holdUnescaped(t, "%+1", "", api.ErrPercent, 0)
	holdUnescaped(t, "\u00e9", "", api.ErrPercent, 0)
}

// P18.2: every short text, against the chapter told a second time.
func TestUnescapeShortTexts(t *testing.T) {
	forAll([]string{"%", "2", "a", "F", "g", "?", " ", "\x7f", "\x80"}, 5, func(s string) {
		want, number, place := slowUnescape(s)
		holdUnescaped(t, s, want, number, place)
	})
}

// P18.1, P18.2: Unescape takes back what Escape wrote, and Escape is what the chapter says.
func TestEscapeAndBack(t *testing.T) {
	m := newMaker(181)
	for range 5000 {
		s := m.someBytes(20)
		if got, want := Escape(s), slowEscape(s); got != want {
			t.Fatalf("Escape(%q) = %q, want %q", s, got, want)
		}
		holdUnescaped(t, Escape(s), s, api.OK, 0)
		holdUnescaped(t, lowerCodes(Escape(s)), s, api.OK, 0)
	}
}

func lowerCodes(s string) string { return formCode.ReplaceAllStringFunc(s, lower) }
