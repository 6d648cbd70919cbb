package dn

import (
	"math/rand"
	"slices"
	"strings"
	"testing"

	"roster/api"
)

// P5.1
func TestParse(t *testing.T) {
	for _, c := range []struct {
		s    string
		want api.DN
	}{
		{"", nil},
		{"CN=Ann Lee,o=Acme", api.DN{one("CN", "Ann Lee"), one("o", "Acme")}},
		{" cn = a  , o=b ", api.DN{one("cn", "a"), one("o", "b")}},
		{"cn=a+sn=b,o=c", api.DN{part("cn", "a", "sn", "b"), one("o", "c")}},
		{"cn=", api.DN{one("cn", "")}},
		{"cn=a=b#c", api.DN{one("cn", "a=b#c")}},
		{`cn=\ a\ `, api.DN{one("cn", " a ")}},
		{`cn=\2C\c3\a9`, api.DN{one("cn", ",\u00e9")}},
		{"2.5.4.3=#04024869", api.DN{one("2.5.4.3", "Hi")}},
		{"  cn  =  a  +  SN  =  b  ,  o  =  c  ", api.DN{part("cn", "a", "SN", "b"), one("o", "c")}},
		{"cn= , o= +sn=", api.DN{one("cn", ""), part("o", "", "sn", "")}},
		{"cn=a  b", api.DN{one("cn", "a  b")}},
		{"cn=a,cn=a", api.DN{one("cn", "a"), one("cn", "a")}},
		{"cn=\n\ta\t\r ", api.DN{one("cn", "\n\ta\t\r")}},
		{"cn=\u00e9\U0001f600\x7f\x01", api.DN{one("cn", "\u00e9\U0001f600\x7f\x01")}},
		{"x-=1,0.0=2,Z9=3", api.DN{one("x-", "1"), one("0.0", "2"), one("Z9", "3")}},
	} {
		d, err := Parse(c.s)
		if err != nil || !sameDN(d, c.want) {
			t.Errorf("Parse(%q) = %q, %v; want %q", c.s, d, err, c.want)
		}
	}
}

// P5.1: every way to escape a byte, and spaces that count or don't.
func TestParseEscapes(t *testing.T) {
	for _, c := range []struct{ value, want string }{
		{`\\\"\+\,\;\<\>\#\=\ `, "\\\"+,;<>#= "},
		{`\5c\22\2b\2c\3b\3c\3e\23\3d\20`, "\\\"+,;<>#= "},
		{`\5C\2B\2C\3B\3C\3E\3D`, "\\+,;<>="},
		{`\00\01\7f\41\4a`, "\x00\x01\x7fAJ"},
		{`\c3\A9\E2\82\ac\F0\9f\98\80`, "\u00e9\u20ac\U0001f600"},
		{"\\c3\\a9\u00e9", "\u00e9\u00e9"},
		{`\414`, "A4"},
		{`\#a`, "#a"},
		{`\23a`, "#a"},
		{`a#`, "a#"},
		{`=`, "="},
		{`  \ a`, " a"},
		{`a\   `, "a "},
		{`a \ `, "a  "},
		{`a\20 `, "a "},
		{`a \20  \20  `, "a     "},
		{`\ `, " "},
		{`\   `, " "},
		{`\ \ `, "  "},
		{`\  \ `, "   "},
		{`a\\ `, "a\\"},
		{`a\\\ `, "a\\ "},
	} {
		for _, s := range []string{"cn=" + c.value, "cn=" + c.value + ",o=x", "cn=" + c.value + "+o=x"} {
			d, err := Parse(s)
			if err != nil || len(d) == 0 || d[0][0] != (api.AVA{Type: "cn", Value: c.want}) {
				t.Errorf("Parse(%q) = %q, %v; want the value %q", s, d, err, c.want)
			}
		}
	}
}

// P5.1: every byte behind a backslash, and every two of some bytes.
func TestParseOfEveryEscape(t *testing.T) {
	for i := range 256 {
		b := string([]byte{byte(i)})
		for _, s := range []string{`cn=\` + b, `cn=a\` + b + "a", `cn=\4` + b, `cn=\` + b + "4", `cn=\c3\a` + b, "cn=" + b, "cn=a" + b, "cn=a" + b + "a", "cn=a " + b + " "} {
			holdText(t, s)
		}
		want := "\\\"+,;<>#= "
		if _, err := Parse(`cn=\` + b); (err == nil) != strings.Contains(want, b) {
			t.Errorf("a backslash and the byte %d: %v", i, err)
		}
	}
	forAll(`09afAFgG/:@`+"`\\ ", 3, func(s string) { holdText(t, `cn=\`+s) })
}

// P5.1: values behind a #.
func TestParseHexValues(t *testing.T) {
	for _, c := range []struct{ digits, want string }{
		{"0400", ""}, {"0c00", ""}, {"1300", ""}, {"1600", ""},
		{"040148", "H"}, {"0C0148", "H"}, {"130148", "H"}, {"160148", "H"},
		{"04810148", "H"}, {"0482000148", "H"}, {"048300000148", "H"}, {"04840000000148", "H"},
		{"0c02C3a9", "\u00e9"}, {"0402c3A9", "\u00e9"},
		{"0403202023", "  #"}, {"04042c5c0020", ",\\\x00 "},
		{"0481" + "80" + strings.Repeat("61", 128), strings.Repeat("a", 128)},
	} {
		for _, end := range []string{"", " ", "   ", ",o=x", "  , o=x", "+o=x", " +o=x"} {
			s := "cn=  #" + c.digits + end
			d, err := Parse(s)
			if err != nil || len(d) == 0 || d[0][0] != (api.AVA{Type: "cn", Value: c.want}) {
				t.Errorf("Parse(%q) = %q, %v; want the value %q", s, d, err, c.want)
			}
			holdText(t, s)
		}
	}
	for tag := range 256 {
		for _, body := range []string{"00", "0161", "80", "85", "7f", ""} {
			holdText(t, "cn=#"+string("0123456789abcdef"[tag/16])+string("0123456789ABCDEF"[tag%16])+body)
		}
	}
	forAll("04c1fF ,g", 5, func(s string) { holdText(t, "cn=#"+s) })
}

// P5.1: the errors of a text, each with its place.
func TestParseRefuses(t *testing.T) {
	for _, c := range []struct {
		s     string
		err   api.Errno
		place int
	}{
		{",", api.ErrNameType, 0}, {"  ", api.ErrNameType, 2}, {"02.5=a", api.ErrNameType, 0}, {"cn=a,", api.ErrNameType, 5},
		{" ", api.ErrNameType, 1}, {"=a", api.ErrNameType, 0}, {"+", api.ErrNameType, 0}, {"#", api.ErrNameType, 0}, {"\\", api.ErrNameType, 0}, {"\x00", api.ErrNameType, 0}, {"\tcn=a", api.ErrNameType, 0}, {"\u00e9=a", api.ErrNameType, 0},
		{"1=a", api.ErrNameType, 0}, {"1.=a", api.ErrNameType, 0}, {".=a", api.ErrNameType, 0}, {"-a=a", api.ErrNameType, 0}, {"1.02=a", api.ErrNameType, 0}, {"cn.x=a", api.ErrNameType, 0}, {"1a=b", api.ErrNameType, 0}, {"1.2-=b", api.ErrNameType, 0},
		{"cn=a,  ", api.ErrNameType, 7}, {"cn=a+", api.ErrNameType, 5}, {"cn=a+ ", api.ErrNameType, 6}, {"cn=a,,o=b", api.ErrNameType, 5}, {"cn=a,+o=b", api.ErrNameType, 5}, {"cn=a+,o=b", api.ErrNameType, 5}, {"cn=a, 1=b", api.ErrNameType, 6},
		{"cn", api.ErrNameEquals, 2}, {"cn;lang-de=a", api.ErrNameEquals, 2},
		{"cn ", api.ErrNameEquals, 3}, {"cn  a", api.ErrNameEquals, 4}, {"cn\t=a", api.ErrNameEquals, 2}, {"cn,o=a", api.ErrNameEquals, 2}, {"cn+o=a", api.ErrNameEquals, 2}, {"c_n=a", api.ErrNameEquals, 1}, {"c\u00e9=a", api.ErrNameEquals, 1}, {"o=a,cn", api.ErrNameEquals, 6}, {"cn\x00", api.ErrNameEquals, 2},
		{"cn=a\\", api.ErrNameEscape, 4}, {"cn=a\\4x", api.ErrNameEscape, 4},
		{"cn=\\", api.ErrNameEscape, 3}, {"cn=\\4", api.ErrNameEscape, 3}, {"cn=\\4,", api.ErrNameEscape, 3}, {"cn=\\x41", api.ErrNameEscape, 3}, {"cn=\\g0", api.ErrNameEscape, 3}, {"cn=\\\u00e9", api.ErrNameEscape, 3}, {"cn=\\\\\\", api.ErrNameEscape, 5}, {"cn=a, o=\\\x00", api.ErrNameEscape, 8}, {"cn=\\n", api.ErrNameEscape, 3},
		{"cn=a;o=b", api.ErrNameChar, 4}, {"cn=#040148x", api.ErrNameChar, 10},
		{"cn=\"a\"", api.ErrNameChar, 3}, {"cn=;", api.ErrNameChar, 3}, {"cn=<", api.ErrNameChar, 3}, {"cn=>", api.ErrNameChar, 3}, {"cn=\x00", api.ErrNameChar, 3}, {"cn=a\x00", api.ErrNameChar, 4}, {"cn=a, o= \\;<", api.ErrNameChar, 11}, {"cn=#040148;", api.ErrNameChar, 10}, {"cn=#040148  \\", api.ErrNameChar, 12}, {"cn=#040148=", api.ErrNameChar, 10}, {"cn=#040148#", api.ErrNameChar, 10}, {"cn=#040148\t", api.ErrNameChar, 10}, {"cn=#0401ffx", api.ErrNameChar, 10},
		{"cn=#0402486", api.ErrNameHex, 3}, {"cn=#02010a", api.ErrNameHex, 3}, {"cn=#", api.ErrNameHex, 3}, {"cn=#3000", api.ErrNameHex, 3},
		{"cn=#,o=a", api.ErrNameHex, 3}, {"cn=#x", api.ErrNameHex, 3}, {"cn=# 0400", api.ErrNameHex, 3}, {"cn=#04", api.ErrNameHex, 3}, {"cn=#0", api.ErrNameHex, 3}, {"cn=#040", api.ErrNameHex, 3}, {"cn=#0401", api.ErrNameHex, 3}, {"cn=#040000", api.ErrNameHex, 3}, {"cn=#04 00", api.ErrNameHex, 3}, {"cn=#8400", api.ErrNameHex, 3}, {"cn=#4400", api.ErrNameHex, 3}, {"cn=#c400", api.ErrNameHex, 3}, {"cn=#2400", api.ErrNameHex, 3}, {"cn=#24020400", api.ErrNameHex, 3}, {"cn=#0480", api.ErrNameHex, 3}, {"cn=#0485", api.ErrNameHex, 3}, {"cn=#1f00", api.ErrNameHex, 3}, {"o=a,cn= #0a0100", api.ErrNameHex, 8}, {"cn=#04014\\", api.ErrNameHex, 3},
		{"cn=\\ff", api.ErrNameUTF8, 3}, {"cn=a\xff", api.ErrNameUTF8, 4},
		{"\xff", api.ErrNameUTF8, 0}, {",\xc3", api.ErrNameUTF8, 1}, {"cn=\\c3", api.ErrNameUTF8, 3}, {"cn= a\\c3 ,o=\\", api.ErrNameUTF8, 4}, {"cn=a\\c3b\\a9", api.ErrNameUTF8, 3}, {"cn=\\c3 \\a9", api.ErrNameUTF8, 3}, {"cn=#0401ff", api.ErrNameUTF8, 3}, {"cn=  #0401ff , ,", api.ErrNameUTF8, 5}, {"cn=\\ed\\a0\\80", api.ErrNameUTF8, 3}, {"cn=\\ff\\", api.ErrNameEscape, 6}, {"cn=\\ff;", api.ErrNameChar, 6},
		{"cn=a+commonName=b", api.ErrNameTwice, 5},
		{"cn=a+CN=b", api.ErrNameTwice, 5}, {"cn=a+ 2.5.4.3", api.ErrNameTwice, 6}, {"cn=a+sn=b+Cn", api.ErrNameTwice, 10}, {"x=a+X=b", api.ErrNameTwice, 4}, {"o=a,1.2=a+1.2=b", api.ErrNameTwice, 10},
	} {
		d, err := Parse(c.s)
		holdError(t, err, c.err, c.place, "Parse(%q)", c.s)
		if len(d) != 0 {
			t.Errorf("Parse(%q) = %q beside an error", c.s, d)
		}
		holdText(t, c.s)
	}
}

// P5.1: names of just as many bytes as are allowed, and of one more.
func TestParseOfLongTexts(t *testing.T) {
	value := strings.Repeat("a", 4093)
	if d, err := Parse("cn=" + value); err != nil || !sameDN(d, api.DN{one("cn", value)}) {
		t.Errorf("Parse of 4096 bytes: %v", err)
	}
	for _, s := range []string{"cn=" + value + "a", "cn=" + value + " ", strings.Repeat(" ", 4097), strings.Repeat("\xff", 4097), strings.Repeat(",", 1<<20), strings.Repeat("a=b,", 1<<20)} {
		d, err := Parse(s)
		holdError(t, err, api.ErrNameLong, 4096, "Parse(%.20q..)", s)
		if len(d) != 0 {
			t.Errorf("Parse of %d bytes has parts", len(s))
		}
	}
	for _, s := range []string{strings.Repeat(" ", 4096), strings.Repeat("\xff", 4096), "cn=" + strings.Repeat(`\,`, 2046), "cn=" + strings.Repeat(`\`, 4093), "cn=#0482" + "07f8" + strings.Repeat("61", 2040) + " ", "cn=a" + strings.Repeat(" ", 4092)} {
		holdText(t, s)
	}
}

// P5.1: names of just as many parts and pairs as are allowed, and of one more.
func TestParseOfWideTexts(t *testing.T) {
	const eight = "a=1+b=1+d=1+e=1+f=1+g=1+h=1+i=1"
	full := "a=b" + strings.Repeat(",a=b", 63)
	for _, c := range []struct {
		s     string
		err   api.Errno
		place int
	}{
		{full, 0, 0},
		{full + ",", api.ErrNameWide, 256},
		{full + ",  ", api.ErrNameWide, 258},
		{full + ", a=b", api.ErrNameWide, 257},
		{full + ", =", api.ErrNameWide, 257},
		{full + "+", api.ErrNameType, 256},
		{full + "+b=c", 0, 0},
		{eight, 0, 0},
		{eight + "+", api.ErrNameWide, 32},
		{eight + "+  ", api.ErrNameWide, 34},
		{eight + "+a=1", api.ErrNameWide, 32},
		{eight + "+ j=1", api.ErrNameWide, 33},
		{eight + ",a=1", 0, 0},
		{"a=b," + eight + "+j=1", api.ErrNameWide, 36},
		{eight + strings.Repeat(","+eight, 63), 0, 0},
		{eight + strings.Repeat(","+eight, 63) + "+x=", api.ErrNameWide, 64 * 32},
		{eight + strings.Repeat(","+eight, 63) + ",x=", api.ErrNameWide, 64 * 32},
	} {
		d, err := Parse(c.s)
		holdError(t, err, c.err, c.place, "Parse(%q)", c.s)
		if err != nil && len(d) != 0 {
			t.Errorf("Parse(%q) = %q beside an error", c.s, d)
		}
		holdText(t, c.s)
	}
}

// P5.1, P5.5
func TestParseOfShortTexts(t *testing.T) {
	forAll("a1.= ,+\\#", 5, func(s string) { holdText(t, s) })
	forAll("a2c =,+\\#;", 4, func(s string) { holdText(t, "o="+s) })
	forAll("a =,+", 6, func(s string) { holdText(t, s) })
}

// P5.1, P5.5
func TestParseOfEveryByteAtEveryPlace(t *testing.T) {
	for _, s := range []string{"", "cn=a", "cn = a , o = b ", `cn=\,\2c\ ,o=\c3\a9`, "cn=#040148 ,sn=#0c02c3a9+o=x", "2.5.4.3=\u00e9+sn=b,1.2=c"} {
		for i := range 256 {
			b := string([]byte{byte(i)})
			for at := range len(s) + 1 {
				holdText(t, s[:at]+b+s[at:])
				if at < len(s) {
					holdText(t, s[:at]+b+s[at+1:])
				}
			}
		}
	}
}

// P5.1, P5.5: pieces of names in any row.
func TestParseOfSomeTexts(t *testing.T) {
	r := rand.New(rand.NewSource(5))
	for range 20000 {
		var s strings.Builder
		for range 1 + r.Intn(12) {
			s.WriteString(pick(r, "cn", "CN=", "commonName =", "o=", "1.2.3=", "x-y=", "=", ",", ",", "+", "+", " ", "  ", "a", "B", "#", "#0401", "#040148", "48", "\\", "\\,", "\\+", "\\ ", "\\20", "\\c3", "\\a9", "\u00e9", "\xff", "\"", ";", "\x00", "\t", "."))
		}
		holdText(t, s.String())
	}
}

// P5.1, P0.1: what is answered is new memory, each part's list by itself.
func TestParsedNamesAreNewMemory(t *testing.T) {
	const s = "cn=a+sn=b+x=c,o=d+ou=e+dc=f,x=g,y=h,z=i"
	want, _, _ := slowParse(s)
	first, _ := Parse(s)
	second, _ := Parse(s)
	for number := range first {
		spoilPart(first[number])
		for later := number + 1; later < len(first); later++ {
			if !slices.Equal(first[later], want[later]) {
				t.Errorf("the parts %d and %d share memory", number, later)
			}
		}
	}
	clear(first[:cap(first)])
	third, _ := Parse(s)
	if !sameDN(second, want) || !sameDN(third, want) {
		t.Errorf("%q, %q", second, third)
	}
}

// spoilPart writes into a list and its spare room.
func spoilPart(r api.RDN) {
	for i := range r[:cap(r)] {
		r[:cap(r)][i] = api.AVA{Type: "spoilt", Value: "spoilt"}
	}
}
