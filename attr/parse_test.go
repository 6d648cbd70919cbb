package attr

import (
	"math/rand"
	"slices"
	"strings"
	"testing"

	"roster/api"
)

func desc(typ string, options ...string) api.Desc {
	return api.Desc{Type: typ, Options: options}
}

// P4.3
func TestParse(t *testing.T) {
	for _, c := range []struct {
		s    string
		want api.Desc
	}{
		{"CN", desc("cn")},
		{"commonName;Lang-DE;x;lang-de", desc("cn", "lang-de", "x")},
		{"2.5.4.3", desc("cn")},
		{"Foo-1;B;a", desc("foo-1", "a", "b")},
		{"1.2.840", desc("1.2.840")},
		{"cn;-", desc("cn", "-")},
		{"x", desc("x")},
		{"Z-9-", desc("z-9-")},
		{"0.0", desc("0.0")},
		{"10.20.0;0", desc("10.20.0", "0")},
		{"CN;10;9;-;a-;A;Z", desc("cn", "-", "10", "9", "a", "a-", "z")},
		{"2.5.4.3;2;1;2;1", desc("cn", "1", "2")},
		{"99999999999999999999999999.1", desc("99999999999999999999999999.1")},
	} {
		if d, err, place := Parse(c.s); !sameDesc(d, c.want) || err != api.OK || place != len(c.s) {
			t.Errorf("Parse(%q) = %+v, %d, %d; want %+v", c.s, d, err, place, c.want)
		}
	}
}

// P4.3
func TestParseRefuses(t *testing.T) {
	for _, c := range []struct {
		s     string
		place int
	}{
		{"", 0}, {"cn;", 3}, {"cn;;x", 3}, {"c n", 1}, {"-cn", 0}, {"1", 1}, {"01.2", 1}, {"1..2", 2}, {"1.02", 3}, {"1.2a", 3}, {"cn_", 2},
		{"0", 1}, {"00", 1}, {"1.", 2}, {"1;x", 1}, {"1.;x", 2}, {"1.2.", 4}, {"1.2.;x", 4}, {"1.2.x", 4}, {"1-2", 1}, {"1.-2", 2}, {"1.2-", 3}, {".1", 0}, {";x", 0}, {";", 0},
		{" cn", 0}, {"cn ", 2}, {"cn;x ", 4}, {"cn; x", 3}, {"cn;x;", 5}, {"cn;x.y", 4}, {"cn.1", 2}, {"c\xc3\xa4", 1}, {"\xff", 0}, {"cn;\xff", 3}, {"cn\n", 2}, {"cn;x\n", 4}, {"1.2\n", 3}, {"cn;x=y", 4}, {"cn\x00", 2},
	} {
		if d, err, place := Parse(c.s); d.Type != "" || d.Options != nil || err != api.ErrDesc || place != c.place {
			t.Errorf("Parse(%q) = %+v, %d, %d; want place %d", c.s, d, err, place, c.place)
		}
	}
}

// P4.3, P4.4, P4.6
func TestParseOfShortTexts(t *testing.T) {
	forAll("cN019.;-_", 6, func(s string) { holdParse(t, s) })
}

// P4.3, P4.4, P4.6
func TestParseOfEveryByteAtEveryPlace(t *testing.T) {
	for _, s := range []string{"", "c", "cN", "cn;x", "cn;Lang-DE;y", "0.9", "2.5.4.3", "2.5.4.3;a;b", "10.20", "o", "C-L;1"} {
		for i := range 256 {
			b := string([]byte{byte(i)})
			for at := range len(s) + 1 {
				holdParse(t, s[:at]+b+s[at:])
				if at < len(s) {
					holdParse(t, s[:at]+b+s[at+1:])
				}
			}
		}
	}
}

// P4.3, P4.4, P4.6
func TestParseOfTheTable(t *testing.T) {
	for _, l := range table {
		for _, called := range l.texts() {
			for _, s := range anyCase(called) {
				holdParse(t, s)
			}
			for _, end := range []string{"x", "-", ".", ".1", ";", ";x", ";X;a;A", " "} {
				holdParse(t, called+end)
			}
		}
	}
}

// P4.3, P4.6
func TestOptionsInAnyOrder(t *testing.T) {
	random := rand.New(rand.NewSource(1))
	some := []string{"a", "A", "b", "B", "ab", "AB", "Ab", "1", "01", "-", "--", "lang-de", "Lang-DE", "z", "Z-"}
	for range 3000 {
		s := []string{"cn", "2.5.4.3", "X"}[random.Intn(3)]
		for range random.Intn(12) {
			s += ";" + some[random.Intn(len(some))]
		}
		holdParse(t, s)
	}
}

// P4.3, P4.4
func TestParseOfLongTexts(t *testing.T) {
	word := strings.Repeat("Ab-9", 50000)
	number := "1" + strings.Repeat("0", 100000)
	holdParse(t, word)
	holdParse(t, word+"_")
	holdParse(t, number)
	holdParse(t, number+"."+number)
	holdParse(t, number+"."+number+";"+word)
	holdParse(t, strings.Repeat("7.", 50000)+"7")
	holdParse(t, "cn"+strings.Repeat(";Ab;c", 20000))
}

// holdParse holds the calls that read a text against the chapter told a second time.
func holdParse(t *testing.T, s string) {
	t.Helper()
	want, wantErr, wantPlace := slowParse(s)
	if d, err, place := Parse(s); !sameDesc(d, want) || err != wantErr || place != wantPlace {
		t.Fatalf("Parse(%.80q) = %.200v, %d, %d; want %.200v, %d, %d", s, d, err, place, want, wantErr, wantPlace)
	}
	wantText := strings.Join(append([]string{want.Type}, want.Options...), ";")
	if text, err, place := Canonical(s); text != wantText || err != wantErr || place != wantPlace {
		t.Fatalf("Canonical(%.80q) = %.200q, %d, %d; want %.200q, %d, %d", s, text, err, place, wantText, wantErr, wantPlace)
	}
	wantType, wantErr, wantPlace := slowParseType(s)
	if typ, err, place := ParseType(s); typ != wantType || err != wantErr || place != wantPlace {
		t.Fatalf("ParseType(%.80q) = %.80q, %d, %d; want %.80q, %d, %d", s, typ, err, place, wantType, wantErr, wantPlace)
	}
}

// P4.3, P0.1
func TestOptionsAreNewMemory(t *testing.T) {
	const s = "cn;b;a;c;B"
	first, _, _ := Parse(s)
	second, _, _ := Parse(s)
	spoil(first.Options)
	third, _, _ := Parse(s)
	want := desc("cn", "a", "b", "c")
	if !sameDesc(second, want) || !sameDesc(third, want) {
		t.Errorf("%+v, %+v", second, third)
	}
}

// P4.4
func TestParseType(t *testing.T) {
	for _, c := range []struct {
		s, want string
		err     api.Errno
		place   int
	}{
		{"Surname", "sn", api.OK, 7},
		{"cn;x", "", api.ErrDesc, 2},
		{"2.5.4.31", "member", api.OK, 8},
		{"2.5.4.30", "2.5.4.30", api.OK, 8},
		{"XColour", "xcolour", api.OK, 7},
		{"", "", api.ErrDesc, 0},
		{"cn;", "", api.ErrDesc, 2},
		{"1", "", api.ErrDesc, 1},
		{"1;", "", api.ErrDesc, 1},
		{"1.", "", api.ErrDesc, 2},
		{"1.00", "", api.ErrDesc, 3},
		{"-", "", api.ErrDesc, 0},
		{"cn ", "", api.ErrDesc, 2},
	} {
		if typ, err, place := ParseType(c.s); typ != c.want || err != c.err || place != c.place {
			t.Errorf("ParseType(%q) = %q, %d, %d; want %q, %d, %d", c.s, typ, err, place, c.want, c.err, c.place)
		}
	}
}

// P4.5
func TestPrint(t *testing.T) {
	for _, c := range []struct {
		d    api.Desc
		want string
	}{
		{desc("cn", "b", "a"), "cn;b;a"},
		{desc(""), ""},
		{api.Desc{Type: "cn", Options: []string{}}, "cn"},
		{desc("CN", "A", "A"), "CN;A;A"},
		{desc("commonName"), "commonName"},
		{desc("", ""), ";"},
		{desc("", "", ""), ";;"},
		{desc("a;b", ";", "\xff ", "c"), "a;b;;;\xff ;c"},
		{desc("2.5.4.3", "x"), "2.5.4.3;x"},
	} {
		if got := Print(c.d); got != c.want {
			t.Errorf("Print(%+v) = %q; want %q", c.d, got, c.want)
		}
	}
}

// P4.5: what Parse answers is a canonical description, and comes back.
func TestPrintAndParse(t *testing.T) {
	forAll("cN1.;-", 7, func(s string) {
		d, err, _ := Parse(s)
		if err != api.OK {
			return
		}
		if again, err, _ := Parse(Print(d)); err != api.OK || !sameDesc(again, d) {
			t.Fatalf("%q: %+v, printed and parsed %+v, %d", s, d, again, err)
		}
	})
}

// P4.5, P0.1
func TestPrintChangesNothing(t *testing.T) {
	room := []string{"b", "a", "a", "spare", "room"}
	before := slices.Clone(room)
	Print(api.Desc{Type: "cn", Options: room[:3]})
	if !slices.Equal(room, before) {
		t.Errorf("the options are %q behind Print", room)
	}
}

// P4.6
func TestCanonical(t *testing.T) {
	for _, c := range []struct {
		s, want string
		err     api.Errno
		place   int
	}{
		{"STREETaddress;B;A;b", "street;a;b", api.OK, 19},
		{"a b", "", api.ErrDesc, 1},
		{"2.5.4.10", "o", api.OK, 8},
		{"", "", api.ErrDesc, 0},
		{"cn;x;", "", api.ErrDesc, 5},
	} {
		if got, err, place := Canonical(c.s); got != c.want || err != c.err || place != c.place {
			t.Errorf("Canonical(%q) = %q, %d, %d; want %q, %d, %d", c.s, got, err, place, c.want, c.err, c.place)
		}
	}
}
