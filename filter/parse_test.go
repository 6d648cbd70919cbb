package filter

import (
	"math/rand"
	"strings"
	"testing"

	"roster/api"
)

// P12.2: the chapter's examples, and texts of each form.
func TestParse(t *testing.T) {
	for s, want := range map[string]api.Filter{
		"(cn=Ada)": list(eq(1, "cn", "Ada")), "(cn=)": list(eq(1, "cn", "")), "(cn=*)": list(has(1, "cn")),
		"(cn=a*)": list(sub(1, "cn", "a", nil, "")), "(cn=*a*b*)": list(sub(1, "cn", "", []string{"a", "b"}, "")),
		"(cn=*a)": list(sub(1, "cn", "", nil, "a")), "(cn=*a*)": list(sub(1, "cn", "", []string{"a"}, "")),
		"(cn=a*b)": list(sub(1, "cn", "a", nil, "b")), "(cn=a*b*c*d)": list(sub(1, "cn", "a", []string{"b", "c"}, "d")),
		`(cn=\2a*\2A)`: list(sub(1, "cn", "*", nil, "*")), `(cn=*\00*)`: list(sub(1, "cn", "", []string{"\x00"}, "")),

		"(&)": list(op(1, api.And)), "(|)": list(op(1, api.Or)),
		"(!(|(cn;x~=a)(sn<=b)))": list(op(1, api.Not), op(2, api.Or), with(3, api.Approx, "cn;x", "a"), with(3, api.AtMost, "sn", "b")),
		"(&(|)(!(&))(a>=))":      list(op(1, api.And), op(2, api.Or), op(2, api.Not), op(3, api.And), with(2, api.AtLeast, "a", "")),

		`(cn=\28\2A\5c)`: list(eq(1, "cn", `(*\`)), `(o=caf\c3\a9)`: list(eq(1, "o", "caf\xc3\xa9")), "(o=caf\xc3\xa9)": list(eq(1, "o", "caf\xc3\xa9")),
		`(cn=\Ff\fF)`: list(eq(1, "cn", "\xff\xff")), `(cn>=\c3)`: list(with(1, api.AtLeast, "cn", "\xc3")),
		"(cn= a )": list(eq(1, "cn", " a ")), "(cn==)": list(eq(1, "cn", "=")), "(cn=~=&|!<>:;)": list(eq(1, "cn", "~=&|!<>:;")), "(cn=\x01\n\x7f)": list(eq(1, "cn", "\x01\n\x7f")),

		"(cn:DN:2.5.13.5:=x)": list(ext(1, "cn", "2.5.13.5", "x", true)), "(:caseExactMatch:=)": list(ext(1, "", "caseExactMatch", "", false)),
		"(cn:=x)": list(ext(1, "cn", "", "x", false)), "(cn:dnx:=y)": list(ext(1, "cn", "dnx", "y", false)),
		"(cn:dN:=y)": list(ext(1, "cn", "", "y", true)), "(:Dn:r:=:=)": list(ext(1, "", "r", ":=", true)), "(dn:dn:d:=)": list(ext(1, "dn", "d", "", true)),
		"(cn:=)": list(ext(1, "cn", "", "", false)), `(cn:=\2a)`: list(ext(1, "cn", "", "*", false)), "(DN=*)": list(has(1, "DN")), "(c;1;-=*)": list(has(1, "c;1;-")),
	} {
		f, err, at := Parse(s)
		if err != api.OK || at != 0 {
			t.Errorf("Parse(%q): %d, %d", s, err, at)
		}
		hold(t, "Parse of "+s, f, want)
	}
}

// P12.2: the chapter's examples of faults, and a fault at each of the seven steps.
func TestParseFaults(t *testing.T) {
	for s, at := range map[string]int{
		"": 0, "cn=a": 0, "(cn=a": 5, "(cn=a))": 6, "()": 1, "(!)": 2, "(!(a=b)(c=d))": 7, "(& (a=b))": 2,
		"(c n=a)": 2, "(1=a)": 2, "(cn;=a)": 4, "(cn>a)": 4, "(cn=a**b)": 6, "(cn=**)": 5, "(cn>=a*)": 6, `(cn=a\2)`: 7, "(cn=a(b)": 5,
		"(cn=\xc3)": 4, "(:dn:=x)": 5, "(:=x)": 2, "(cn:dn:dn:=x)": 9, "(cn:1:=x)": 5, "(cn:dn=x)": 6, "(cn:a:b:=x)": 6,

		" (a=b)": 0, ")": 0, "\x00": 0, "a": 0, // 1
		"(": 1, "(&": 2, "(|": 2, "(!": 2, "(&)": -1, "(&a": 2, "(&(a=b)x)": 7, "(&(a=b)": 7, "(!(a=b)": 7, "(!(a=b)x)": 7, "(!(a=b)(": 7, "(!a=b)": 2, "(&(a=b) (c=d))": 7, "((a=b))": 1, // 2
		"(=a)": 1, "(~=a)": 1, "(-a=b)": 1, "(;x=b)": 1, "(.1=b)": 1, "(a.b=c)": 2, "(1.=a)": 3, "(01.2=a)": 2, "(1.02=a)": 4, "(cn;;x=a)": 4, "(cn;": 4, "(1.2;": 5, "(\xc3\xa9=a)": 1, // 3
		"(cn": 3, "(cn~": 4, "(cn<": 4, "(cn>": 4, "(cn~a)": 4, "(cn<a)": 4, "(cn<<=a)": 4, "(cn)": 3, "(cn(": 3, "(cn*": 3, "(cn\x00": 3, "(cn =a)": 3, "(1": 2, // 4
		"(:)": 2, "(:": 2, "(:d": 3, "(:dn": 4, "(:dn)": 4, "(:dn:": 5, "(:dn:)": 5, "(cn:": 4, "(cn:)": 4, "(cn:dn:": 7, "(cn:dn:)": 7, "(cn:r)": 5, "(cn:r": 5, "(cn:r:": 6, "(cn:r:)": 6, "(cn:r:x)": 6, "(cn:r=x)": 5, "(cn::=x)": 4, "(cn:;=x)": 4, "(cn:r;x:=x)": 5, "(cn:dn;x:=y)": 6, "(cn:-:=x)": 4, "(cn:dn:1:=x)": 8, "(cn:dn:DN:=x)": 9, "(:dn:dn:=x)": 7, "(cn:1.:=x)": 6, "(:r": 3, "(:r:": 4, "(:r:dn:=x)": 4, // 5
		"(cn=": 4, "(cn=*": 5, "(cn=*a": 6, "(cn=*a*": 7, "(cn~=": 5, "(cn:=": 5, "(cn=a\x00)": 5, "(cn=*\x00)": 5, "(cn=*(": 5, "(cn~=*)": 5, "(cn<=*)": 5, "(cn>=*)": 5, "(cn:=*)": 5, "(:r:=*)": 5, "(cn=***)": 5, "(cn=a***)": 6, "(cn=*a**)": 7, // 6
		`(cn=\`: 5, `(cn=\2`: 6, `(cn=\)`: 5, `(cn=\g0)`: 5, `(cn=\0g)`: 6, `(cn=\\28)`: 5, `(cn=a\2(`: 7, "(cn=\\\xc3\xa9)": 5, `(cn=*\*)`: 6, // 6, escapes
		"(cn=\xff)": 4, "(cn=a\x80)": 5, "(cn=\xe2\x82)": 4, "(cn=\xe2\x82": 4, "(cn=\xc3": 4, "(cn=\xc3\\a9)": 4, "(cn=a\xed\xa0\x80)": 5, "(cn=\xc0\x80)": 4, "(cn=\xf4\x90\x80\x80)": 4, "(cn=\xc3\xa9\xc3)": 6, "(cn=\xe2\x82*)": 4, "(cn=a*\xe2)": 6, "(cn~=\xf0\x90\x80)": 5, "(cn:=\xc3(": 5, // 6, sequences
		"(cn=a) ": 6, "(cn=a)(cn=b)": 6, "(&))": 3, "(cn=a)\x00": 6, "(!(&)))": 6, // 7
	} {
		f, err, place := Parse(s)
		if at >= 0 && (err != api.ErrFilter || place != at || f != nil) {
			t.Errorf("Parse(%q) = %s, %d, %d, want %d, %d", s, told(f), err, place, api.ErrFilter, at)
		}
		if at < 0 && err != api.OK {
			t.Errorf("Parse(%q): %d, %d", s, err, place)
		}
	}
}

// P12.2: as deep as may be, and deeper; what stands ahead of the depth is told first.
func TestParseDeep(t *testing.T) {
	deep := func(sign string, many int) string {
		return strings.Repeat("("+sign, many) + "(a=b)" + strings.Repeat(")", many)
	}
	for sign, o := range map[string]api.FilterOp{"!": api.Not, "&": api.And, "|": api.Or} {
		f, err, at := Parse(deep(sign, 63))
		if err != api.OK || at != 0 {
			t.Errorf("64 deep under %s: %d, %d", sign, err, at)
		}
		hold(t, "64 deep", f, append(chain(o, 63), eq(64, "a", "b")))
		for _, s := range []string{deep(sign, 64), deep(sign, 65), deep(sign, 900), strings.Repeat("("+sign, 64) + "("} {
			if f, err, at := Parse(s); f != nil || err != api.ErrDeep || at != 128 {
				t.Errorf("Parse(%q) = %s, %d, %d", s, told(f), err, at)
			}
		}
		if f, err, at := Parse(strings.Repeat("("+sign, 64) + "a=b"); f != nil || err != api.ErrFilter || at != 128 {
			t.Errorf("no filter beneath the deepest %s: %s, %d, %d", sign, told(f), err, at)
		}
	}
	if _, err, at := Parse("(&" + "(x)" + deep("!", 64)); err != api.ErrFilter || at != 4 {
		t.Errorf("a fault ahead of the depth: %d, %d", err, at)
	}
	if _, err, at := Parse("(&(a=b)" + deep("!", 63) + "((("); err != api.ErrDeep || at != 133 {
		t.Errorf("a depth ahead of a fault: %d, %d", err, at)
	}
	wide := "(&" + strings.Repeat(deep("!", 62), 50) + ")"
	if f, err, _ := Parse(wide); err != api.OK || len(f) != 1+63*50 || Depth(f) != 64 {
		t.Errorf("fifty as deep as may be, side by side: %d, %d nodes", err, len(f))
	}
}

// P12.2: all texts that go on from a front by these bytes, up to a length, and one byte beyond the last front.
func TestParseOfShortTexts(t *testing.T) {
	known := fronts{}
	for _, x := range []struct {
		begin, letters string
		more           int
	}{
		{"", "(&!)a=", 7},
		{"(|", "(!)a=*", 7},
		{"(", "a01.-;:=~", 5},
		{"(a", "dN:=1.;", 6},
		{"(", ":dn=.0)", 7},
		{"(a=", "*a\\0)(\x00", 5},
		{"(a=", "*\xc3\xa9\xe2\x82)", 5},
		{"(a<", "=*a\\f)", 6},
		{"(a:=", "=*a\\F):", 5},
	} {
		var walk func(s string, more int)
		walk = func(s string, more int) {
			known.holdParse(t, s)
			if more == 0 || !wholeFront(known, s) {
				return
			}
			for _, b := range []byte(x.letters) {
				walk(s+string([]byte{b}), more-1)
			}
		}
		walk(x.begin, x.more)
	}
}

// wholeFront tells whether it is worth going on from s: it is a front, or ends in a sequence that may.
func wholeFront(known fronts, s string) bool {
	for cut := range 4 {
		if cut <= len(s) && known.ask(s[:len(s)-cut]) {
			return true
		}
		if cut < len(s) && s[len(s)-1-cut] < 0x80 {
			return false
		}
	}
	return false
}

// P12.2: every byte behind every front of some texts, with what follows it and without.
func TestParseOfEveryByte(t *testing.T) {
	known := fronts{}
	for _, s := range []string{"(cn;x=a*b)", `(!(&(a~=\5c)))`, "(c:dn:2.5:=x)", "(:dn:r:=)", "(o>=\xc3\xa9)", "(1.2<=*)"} {
		for at := range len(s) + 1 {
			for b := range 256 {
				one := string([]byte{byte(b)})
				known.holdParse(t, s[:at]+one)
				known.holdParse(t, s[:at]+one+s[at:])
			}
		}
	}
}

// P12.2: random texts: those of filters, with bytes changed, lost, doubled and cut off.
func TestParseAgainstWords(t *testing.T) {
	r := rand.New(rand.NewSource(122))
	known := fronts{}
	for range 1500 {
		f := someFilter(r)
		s := slowPrint(slowTree(f))
		known.holdParse(t, s)
		if len(s) > 60 {
			continue
		}
		for range 1 + r.Intn(2) {
			at := r.Intn(len(s) + 1)
			switch r.Intn(4) {
			case 0:
				s = s[:at]
			case 1:
				s = s[:at] + pick(r, "(", ")", "*", "\\", ":", "=", "&", "!", "|", "~", ";", "dn", "\xc3", "\x00", "a", "(a=b)", "**", ":dn", ":=") + s[at:]
			case 2:
				s = s[:at] + s[min(at+1, len(s)):]
			case 3:
				s = s[:at] + someBytes(r, 2) + s[at:]
			}
		}
		known.holdParse(t, s)
	}
}
