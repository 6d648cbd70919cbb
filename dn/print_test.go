package dn

import (
	"math/rand"
	"strings"
	"testing"

	"roster/api"
)

// P5.3
func TestPrint(t *testing.T) {
	for _, c := range []struct {
		d    api.DN
		want string
	}{
		{nil, ""},
		{api.DN{}, ""},
		{api.DN{one("CN", " #,")}, `CN=\ #\,`},
		{api.DN{one("cn", " ")}, `cn=\ `},
		{api.DN{one("cn", "#")}, `cn=\#`},
		{api.DN{one("cn", "")}, "cn="},
		{api.DN{one("cn", "  ")}, `cn=\ \ `},
		{api.DN{one("cn", "   ")}, `cn=\  \ `},
		{api.DN{one("cn", "##")}, `cn=\##`},
		{api.DN{one("cn", "a b# ")}, `cn=a b#\ `},
		{api.DN{one("cn", `\"+,;<>=`)}, `cn=\\\"\+\,\;\<\>=`},
		{api.DN{one("cn", "\x00a\x00")}, `cn=\00a\00`},
		{api.DN{one("cn", "\ta\n\x7f\u00e9\U0001f600")}, "cn=\ta\n\x7f\u00e9\U0001f600"},
		{api.DN{part("sn", "b", "CommonName", "A"), one("2.5.4.10", "Acme"), one("X-9", "1")}, "sn=b+CommonName=A,2.5.4.10=Acme,X-9=1"},
	} {
		if s, err := Print(c.d); err != nil || s != c.want {
			t.Errorf("Print(%q) = %q, %v; want %q", c.d, s, err, c.want)
		}
		holdName(t, c.d)
	}
}

// P5.3: every byte at the front, in the middle, at the end and alone.
func TestPrintOfEveryByte(t *testing.T) {
	for i := range 256 {
		b := string([]byte{byte(i)})
		for _, value := range []string{b, b + "a", "a" + b + "a", "a" + b, b + b, b + b + b, "\xc3" + b} {
			holdName(t, api.DN{one("cn", value)})
		}
	}
	forAll(" #,a\x00\\\xc3\xa9", 5, func(s string) { holdName(t, api.DN{one("o", s), one("cn", s)}) })
}

// wide is a part of so many pairs.
func wide(pairs int) api.RDN {
	var r api.RDN
	for i := range pairs {
		r = append(r, api.AVA{Type: "x-" + strings.Repeat("y", i), Value: "v"})
	}
	return r
}

// long is a DN of so many parts.
func long(parts int) api.DN {
	var d api.DN
	for range parts {
		d = append(d, one("cn", "a"))
	}
	return d
}

// P5.3, P5.4, P5.5: what is no name, with the number of the part at fault, and which fault is told first.
func TestRefusedNames(t *testing.T) {
	bad := one("no type", "\xff")
	for _, c := range []struct {
		d     api.DN
		err   api.Errno
		place int
	}{
		{api.DN{one("cn", "a"), {}}, api.ErrNameMade, 1},
		{api.DN{nil}, api.ErrNameMade, 0},
		{api.DN{{}, bad}, api.ErrNameMade, 0},
		{api.DN{one("", "a")}, api.ErrNameMade, 0},
		{api.DN{one("cn;lang-de", "a")}, api.ErrNameMade, 0},
		{api.DN{one(" cn", "a")}, api.ErrNameMade, 0},
		{api.DN{one("cn\n", "a")}, api.ErrNameMade, 0},
		{api.DN{one("1", "a")}, api.ErrNameMade, 0},
		{api.DN{one("\u00e9", "a")}, api.ErrNameMade, 0},
		{api.DN{one("cn", "a"), bad}, api.ErrNameMade, 1},
		{api.DN{part("cn", "a", "1.02", "\xff")}, api.ErrNameMade, 0},
		{api.DN{part("cn", "\xff", "", "a")}, api.ErrNameUTF8, 0},
		{api.DN{one("cn", "a\xc3")}, api.ErrNameUTF8, 0},
		{api.DN{one("cn", "a"), one("o", "b"), one("o", "\xed\xa0\x80")}, api.ErrNameUTF8, 2},
		{api.DN{part("cn", "a", "CN", "b")}, api.ErrNameTwice, 0},
		{api.DN{one("o", "a"), part("cn", "a", "sn", "b", "2.5.4.3", "\xff")}, api.ErrNameTwice, 1},
		{api.DN{part("cn", "\xff", "commonName", "a")}, api.ErrNameUTF8, 0},
		{api.DN{part("cn", "a", "commonName", "a", "", "")}, api.ErrNameTwice, 0},
		{api.DN{part("x-1", "a", "X-1", "a")}, api.ErrNameTwice, 0},
		{api.DN{wide(8)}, api.OK, 0},
		{api.DN{wide(9)}, api.ErrNameWide, 0},
		{api.DN{wide(8), wide(8), wide(9)}, api.ErrNameWide, 2},
		{api.DN{make(api.RDN, 9)}, api.ErrNameWide, 0},
		{api.DN{one("cn", "\xff"), wide(9)}, api.ErrNameUTF8, 0},
		{long(64), api.OK, 0},
		{long(65), api.ErrNameWide, 64},
		{append(long(64), nil), api.ErrNameWide, 64},
		{append(long(64), bad, bad), api.ErrNameWide, 64},
		{append(long(63), nil, nil), api.ErrNameMade, 63},
		{append(api.DN{bad}, long(80)...), api.ErrNameMade, 0},
		{append(api.DN{wide(9)}, long(64)...), api.ErrNameWide, 0},
		{make(api.DN, 100000), api.ErrNameMade, 0},
	} {
		s, err := Print(c.d)
		holdError(t, err, c.err, c.place, "Print(%.200q)", c.d)
		if err != nil && s != "" {
			t.Errorf("Print(%.200q) = %q beside an error", c.d, s)
		}
		key, err := Key(c.d)
		holdError(t, err, c.err, c.place, "Key(%.200q)", c.d)
		if err != nil && len(key) != 0 {
			t.Errorf("Key(%.200q) = %q beside an error", c.d, key)
		}
		holdName(t, c.d)
	}
}

// P5.3, P5.4, P5.5: the length counts behind all parts, as printed, and for Print alone.
func TestPrintOfLongNames(t *testing.T) {
	for _, c := range []struct {
		d     api.DN
		err   api.Errno
		place int
	}{
		{api.DN{one("cn", strings.Repeat("a", 4093))}, api.OK, 0},
		{api.DN{one("cn", strings.Repeat("a", 4094))}, api.ErrNameLong, 1},
		{api.DN{one("cn", strings.Repeat(",", 2046)+"a")}, api.OK, 0},
		{api.DN{one("cn", strings.Repeat(",", 2047))}, api.ErrNameLong, 1},
		{api.DN{one("cn", strings.Repeat("\x00", 1364)+"a")}, api.OK, 0},
		{api.DN{one("cn", strings.Repeat("\x00", 1365))}, api.ErrNameLong, 1},
		{api.DN{one("cn", strings.Repeat("a", 4090)), one("o", "")}, api.OK, 0},
		{api.DN{one("cn", strings.Repeat("a", 4091)), one("o", "")}, api.ErrNameLong, 2},
		{api.DN{part("cn", strings.Repeat("a", 4090), "o", ""), one("o", "")}, api.ErrNameLong, 2},
		{api.DN{one(strings.Repeat("a", 4095), "")}, api.OK, 0},
		{api.DN{one(strings.Repeat("a", 4096), "")}, api.ErrNameLong, 1},
		{api.DN{one("cn", strings.Repeat("a", 1<<20)), one("o", "b"), one("o", "\xff")}, api.ErrNameUTF8, 2},
		{api.DN{one("cn", strings.Repeat("a", 1<<20)), one("o", "b"), one("o", "c")}, api.ErrNameLong, 3},
	} {
		s, err := Print(c.d)
		holdError(t, err, c.err, c.place, "Print(%.40q..)", c.d)
		if err != nil && s != "" {
			t.Errorf("Print(%.40q..) = %.40q beside an error", c.d, s)
		}
		if _, err := Key(c.d); c.err == api.ErrNameLong && err != nil {
			t.Errorf("Key(%.40q..): %v", c.d, err)
		}
		if _, err := Part(c.d[0]); err != nil {
			t.Errorf("Part(%.40q..): %v", c.d[0], err)
		}
		holdName(t, c.d)
	}
}

// P5.1, P5.3: what is printed means the name; and P5.5: it has its key.
func TestPrintAndParse(t *testing.T) {
	r := rand.New(rand.NewSource(3))
	for range 5000 {
		d := someName(r)
		s, err := Print(d)
		if err != nil {
			t.Fatalf("Print(%q): %v", d, err)
		}
		if again, err := Parse(s); err != nil || !sameDN(again, d) {
			t.Fatalf("Parse(Print(%q)) = %q, %v", d, again, err)
		}
		holdText(t, s)
	}
}

// P5.3, P5.4, P5.5: lists that are names or nearly such.
func TestSomeLists(t *testing.T) {
	r := rand.New(rand.NewSource(4))
	for range 5000 {
		d := someName(r)
		for range r.Intn(3) {
			d = append(d, nil)
			at := r.Intn(len(d))
			d[at] = append(d[at], api.AVA{Type: pick(r, "", "cn", "SN", "sn", "cn;x", "1", "1.2", "o"), Value: pick(r, "", "a", "\xff", "\xc3\xa9")})
		}
		if r.Intn(20) == 0 {
			at := r.Intn(len(d) + 1)
			d = append(d[:at:at], append(long(60+r.Intn(6)), d[at:]...)...)
		}
		if r.Intn(20) == 0 && len(d) > 0 {
			d[r.Intn(len(d))] = wide(7 + r.Intn(3))
		}
		holdName(t, d)
	}
}
