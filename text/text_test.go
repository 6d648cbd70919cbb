package text

import (
	"strings"
	"testing"
)

// P1.2
func TestFold(t *testing.T) {
	checkTurned(t, "Fold", Fold, []turned{
		{"", ""},
		{"Ab[\xc3\x89z", "ab[\xc3\x89z"},
		{"ABCDEFGHIJKLMNOPQRSTUVWXYZ", "abcdefghijklmnopqrstuvwxyz"},
		{"@[`{", "@[`{"},
		{"\xc1\xda\xff\x00", "\xc1\xda\xff\x00"},
		{"\u212a\u0130", "\u212a\u0130"},
	})
	for i := range 256 {
		want := byte(i)
		if i >= 65 && i <= 90 {
			want += 32
		}
		if got := Fold(string([]byte{byte(i)})); got != string([]byte{want}) {
			t.Errorf("Fold of the byte %d = %q; want the byte %d", i, got, want)
		}
	}
}

// P1.3
func TestCollapse(t *testing.T) {
	checkTurned(t, "Collapse", Collapse, []turned{
		{"", ""},
		{" \t a\n\nb ", " a b "},
		{" \t", " "},
		{"\t", " "},
		{"a b", "a b"},
		{"a\t\n\v\f\r b", "a b"},
		{"a\x08b\x0ec", "a\x08b\x0ec"},
		{"A \xc2\xa0 \xff", "A \xc2\xa0 \xff"},
		{"\u0085\u2003", "\u0085\u2003"},
	})
	for i := range 256 {
		b := string([]byte{byte(i)})
		want := b
		if i >= 9 && i <= 13 || i == 32 {
			want = " "
		}
		if got := Collapse(b); got != want {
			t.Errorf("Collapse(%q) = %q; want %q", b, got, want)
		}
	}
}

// P1.4
func TestSqueeze(t *testing.T) {
	checkTurned(t, "Squeeze", Squeeze, []turned{
		{"", ""},
		{" \t a\n\nb ", "a b"},
		{" \t", ""},
		{" ", ""},
		{"\n", ""},
		{"a", "a"},
		{" a", "a"},
		{"a ", "a"},
		{"Ab\r\nC", "Ab C"},
		{"\xa0a\x85", "\xa0a\x85"},
	})
}

// P1.3, P1.4
func TestBlanksAgainstWords(t *testing.T) {
	forAll("aB \t\r\xc2\x85", 6, func(s string) {
		words := strings.FieldsFunc(asLatin1(s), func(r rune) bool { return strings.ContainsRune(" \t\r", r) })
		if got, want := asLatin1(Squeeze(s)), strings.Join(words, " "); got != want {
			t.Fatalf("Squeeze(%q) = %q; want %q", s, got, want)
		}
		want := Squeeze(s)
		switch {
		case s != "" && want == "":
			want = " "
		case s != "":
			want = spaceIfBlank(s[0]) + want + spaceIfBlank(s[len(s)-1])
		}
		if got := Collapse(s); got != want {
			t.Fatalf("Collapse(%q) = %q; want %q", s, got, want)
		}
	})
}

// asLatin1 makes each byte a rune of its own, so that the library's cuts fall between bytes.
func asLatin1(s string) string {
	var out strings.Builder
	for i := 0; i < len(s); i++ {
		out.WriteRune(rune(s[i]))
	}
	return out.String()
}

func spaceIfBlank(b byte) string {
	if strings.IndexByte(" \t\r", b) >= 0 {
		return " "
	}
	return ""
}

// P1.5
func TestNormal(t *testing.T) {
	checkTurned(t, "Normal", Normal, []turned{
		{"", ""},
		{"  John\tSMITH ", "john smith"},
		{" \n", ""},
		{"X", "x"},
		{"\xc3\x89 \x7f  Z\xff", "\xc3\x89 \x7f z\xff"},
	})
	forAll("aA \t\xc9", 5, func(s string) {
		if got, want := Normal(s), Squeeze(Fold(s)); got != want {
			t.Fatalf("Normal(%q) = %q; want %q", s, got, want)
		}
	})
}

// P1.10, P1.11
func TestSafePlain(t *testing.T) {
	for _, c := range []struct {
		s           string
		safe, plain bool
	}{
		{"", true, true},
		{"a:b ", true, false},
		{"a:b", true, true},
		{" a", false, false},
		{":a", false, false},
		{"<a", false, false},
		{"a\x00", false, false},
		{"caf\xc3\xa9", false, false},
		{"a\tb", true, true},
		{"\ta\t", true, true},
		{"a  ", true, false},
		{"a b", true, true},
		{"a <:", true, true},
		{" ", false, false},
		{"\x01\x7f", true, true},
		{"a\xff", false, false},
		{"a\x80b", false, false},
		{"a\n", false, false},
		{"a\rb", false, false},
		{"\ufffd", false, false},
		{"a\u0080", false, false},
	} {
		if got := Safe(c.s); got != c.safe {
			t.Errorf("Safe(%q) = %v; want %v", c.s, got, c.safe)
		}
		if got := Plain(c.s); got != c.plain {
			t.Errorf("Plain(%q) = %v; want %v", c.s, got, c.plain)
		}
	}
}

// P1.10, P1.11: every byte at the front, in the middle and at the end.
func TestSafePlainOfEveryByte(t *testing.T) {
	for i := range 256 {
		b := string([]byte{byte(i)})
		inside := i >= 1 && i <= 127 && i != 10 && i != 13
		first := inside && i != 32 && i != 58 && i != 60
		for _, c := range []struct {
			s           string
			safe, plain bool
		}{
			{b, first, first},
			{b + "a", first, first},
			{"a" + b + "a", inside, inside},
			{"a" + b, inside, inside && i != 32},
		} {
			if got := Safe(c.s); got != c.safe {
				t.Errorf("Safe(%q) = %v; want %v", c.s, got, c.safe)
			}
			if got := Plain(c.s); got != c.plain {
				t.Errorf("Plain(%q) = %v; want %v", c.s, got, c.plain)
			}
		}
	}
}
