package url

import (
	"fmt"
	"strings"
	"testing"

	"roster/api"
)

func holdRead(t *testing.T, s string, want api.URL) {
	t.Helper()
	if u, err, at := Parse(s); told(u) != told(want) || err != api.OK || at != 0 {
		t.Errorf("Parse(%.300q) = %.500s, %d, %d; want %.500s", s, told(u), err, at, told(want))
	}
	holdParsed(t, s)
}

func holdRefused(t *testing.T, s string, number api.Errno, place int) {
	t.Helper()
	if u, err, at := Parse(s); told(u) != "{}" || err != number || at != place {
		t.Errorf("Parse(%.300q) = %.500s, %d, %d; want %d, %d", s, told(u), err, at, number, place)
	}
	holdParsed(t, s)
}

func critical(typ string) api.Extension { return api.Extension{Critical: true, Type: typ} }

func valued(typ, value string) api.Extension {
	return api.Extension{Type: typ, Value: value, HasValue: true}
}

func extended(es ...api.Extension) api.URL { return api.URL{Extensions: es} }

// P18.3: the chapter's examples.
func TestParseExamples(t *testing.T) {
	holdRead(t, "ldap://", api.URL{})
	holdRead(t, "LDAP:///o=University%20of%20X,c=US", api.URL{DN: "o=University of X,c=US"})
	holdRead(t, "ldap://h.example:389/o=x?cn,sn?sub?(cn=A%20*)", api.URL{Host: "h.example", Port: 389, DN: "o=x", Attributes: []string{"cn", "sn"}, Scope: 2, HasScope: true,
		Filter: one(api.FilterNode{Depth: 1, Op: api.Substrings, Desc: "cn", Parts: api.Pattern{Initial: "A "}})})
	holdRead(t, "ldap://[2001:db8::7]/c=GB?objectClass?one", api.URL{Host: "[2001:db8::7]", DN: "c=GB", Attributes: []string{"objectClass"}, Scope: 1, HasScope: true})
	holdRead(t, "ldap:///o=x???(a=b)?!bind=cn=A%2cB,x-y", api.URL{DN: "o=x", Filter: one(node(api.Equality, "a", "b")),
		Extensions: []api.Extension{{Critical: true, Type: "bind", Value: "cn=A,B", HasValue: true}, {Type: "x-y"}}})
	holdRefused(t, "http://h/", api.ErrScheme, 0)
	holdRefused(t, "ldap://h_/", api.ErrHost, 8)
	holdRefused(t, "ldap://h:/", api.ErrHost, 9)
	holdRefused(t, "ldap://h:0389/", api.ErrHost, 9)
	holdRefused(t, "ldap://:389/", api.ErrHost, 7)
	holdRefused(t, "ldap://[::1/", api.ErrHost, 7)
	holdRefused(t, "ldap://[1:2]/", api.ErrHost, 7)
	holdRefused(t, "ldap://h?cn", api.ErrHost, 8)
	holdRefused(t, "ldap:///o=a b", api.ErrPercent, 11)
	holdRefused(t, "ldap:///o", api.ErrURLName, 8)
	holdRefused(t, "ldap:///?cn,,sn", api.ErrURLDesc, 12)
	holdRefused(t, "ldap:///??two", api.ErrURLScope, 10)
	holdRefused(t, "ldap:///???cn=a", api.ErrURLFilter, 11)
	holdRefused(t, "ldap:///????!", api.ErrExtension, 12)
	holdRefused(t, "ldap:///????x=a?b", api.ErrPercent, 15)
}

// P18.3, step 1.
func TestParseScheme(t *testing.T) {
	for _, s := range []string{"ldap://", "Ldap://", "lDap://", "ldAp://", "ldaP://", "LDAP://"} {
		holdRead(t, s, api.URL{})
		holdRead(t, s+"h/o=x", api.URL{Host: "h", DN: "o=x"})
	}
	for end := range len("ldap://") {
		holdRefused(t, "ldap://"[:end], api.ErrScheme, 0)
	}
	for _, s := range []string{"ldap:/h/o", "ldap//h/o=x", "ldaps://h", "ldapi:///", " ldap://", "\u217cdap://", "1dap://", "ldap:\\\\h", "URL:ldap://", "<ldap://>"} {
		holdRefused(t, s, api.ErrScheme, 0)
	}
}

// P18.3, step 2: hosts that are no literals.
func TestParseHost(t *testing.T) {
	long := strings.Repeat("a", 255)
	for _, host := range []string{"h", "H", "0", "-", ".", "a.Example-1.", "..", long} {
		holdRead(t, "ldap://"+host, api.URL{Host: host})
		holdRead(t, "ldap://"+host+"/", api.URL{Host: host})
		holdRead(t, "ldap://"+host+":7", api.URL{Host: host, Port: 7})
		holdRead(t, "ldap://"+host+":7/o=x", api.URL{Host: host, Port: 7, DN: "o=x"})
		holdRefused(t, "ldap://"+host+"_/", api.ErrHost, 7+len(host))
		holdRefused(t, "ldap://"+host+"[::1]/", api.ErrHost, 7+len(host))
	}
	for _, rest := range []string{"", "/", ":7", "_", ":", ":0/o"} {
		holdRefused(t, "ldap://"+long+"a"+rest, api.ErrHost, 7)
	}
	holdRefused(t, "ldap://"+strings.Repeat("a", 1000), api.ErrHost, 7)
	for b := range 256 {
		s := string([]byte{byte(b)})
		switch {
		case s == "/":
		case formHost.MatchString(s):
			holdRead(t, "ldap://"+s+"/", api.URL{Host: s})
			holdRead(t, "ldap://h"+s+"/", api.URL{Host: "h" + s})
		case s == ":":
			holdRefused(t, "ldap://h:/", api.ErrHost, 9)
			fallthrough
		case s == "[":
			holdRefused(t, "ldap://"+s+"/", api.ErrHost, 7)
		default:
			holdRefused(t, "ldap://"+s+"/", api.ErrHost, 7)
			holdRefused(t, "ldap://h"+s+"/", api.ErrHost, 8)
		}
	}
	holdRefused(t, "ldap://h%41/", api.ErrHost, 8) // nothing is escaped in a host
	holdRefused(t, "ldap://u@h/", api.ErrHost, 8)
	holdRefused(t, "ldap://h#/", api.ErrHost, 8)
}

// P18.3, step 2: hosts in brackets.
func TestParseLiteral(t *testing.T) {
	most := "::" + strings.Repeat("f", 43)
	for _, inner := range []string{"::", "::1", "1::", ":a:", "a:b:c", "aAfF09.::", "....::", most, strings.Repeat(":", 45)} {
		host := "[" + inner + "]"
		holdRead(t, "ldap://"+host, api.URL{Host: host})
		holdRead(t, "ldap://"+host+"/o=x", api.URL{Host: host, DN: "o=x"})
		holdRead(t, "ldap://"+host+":65535/", api.URL{Host: host, Port: 65535})
		holdRefused(t, "ldap://"+host+"x/", api.ErrHost, 7+len(host))
		holdRefused(t, "ldap://"+host+"]/", api.ErrHost, 7+len(host))
		holdRefused(t, "ldap://"+host+host, api.ErrHost, 7+len(host))
		holdRefused(t, "ldap://"+host+":", api.ErrHost, 7+len(host)+1)
		holdRefused(t, "ldap://["+inner+"/", api.ErrHost, 7)
		holdRefused(t, "ldap://["+inner, api.ErrHost, 7)
		place := 7
		if front := formRow.FindString(inner); front != "" {
			place += len(front) + 1 // a host, and a colon behind it
		}
		holdRefused(t, "ldap://"+inner+"]/", api.ErrHost, place)
	}
	for _, inner := range []string{"", ":", "a", "aa", "a:b", "1:", ":1", "1.2.3.4", most + "f", strings.Repeat(":", 46), "::g", "::G", ": :", "::%25", "::-", "::1%eth0", "[::1", "::\xff"} {
		holdRefused(t, "ldap://["+inner+"]", api.ErrHost, 7)
		holdRefused(t, "ldap://["+inner+"]/", api.ErrHost, 7)
		holdRefused(t, "ldap://["+inner+"]:1x/o", api.ErrHost, 7)
	}
	holdRefused(t, "ldap://[", api.ErrHost, 7)
	holdRefused(t, "ldap://[/]", api.ErrHost, 7)
	holdRefused(t, "ldap://[::/::]/", api.ErrHost, 7) // the part ends at the slash
	holdRefused(t, "ldap://]", api.ErrHost, 7)
}

// P18.3, step 2: ports.
func TestParsePort(t *testing.T) {
	for port := 1; port <= 65535; port += 1 + port/50 {
		holdRead(t, fmt.Sprintf("ldap://h:%d/", port), api.URL{Host: "h", Port: port})
	}
	for _, port := range []int{1, 9, 10, 389, 636, 9999, 10000, 65529, 65534, 65535} {
		holdRead(t, fmt.Sprintf("ldap://h:%d", port), api.URL{Host: "h", Port: port})
		holdRead(t, fmt.Sprintf("ldap://[::]:%d/?cn", port), api.URL{Host: "[::]", Port: port, Attributes: []string{"cn"}})
		holdRefused(t, fmt.Sprintf("ldap://h:0%d", port), api.ErrHost, 9)
		holdRefused(t, fmt.Sprintf("ldap://h:%d:/", port), api.ErrHost, 9)
		holdRefused(t, fmt.Sprintf("ldap://h:%d?cn", port), api.ErrHost, 9)
	}
	for _, port := range []string{"", "0", "00", "65536", "65540", "70000", "100000", "99999999999999999999", "18446744073709551617", "4294967297", "-1", "+1", " 1", "1 ", "1_0", "0x1", "1e3", "a", "1a", "%31", "\u0661"} {
		holdRefused(t, "ldap://h:"+port, api.ErrHost, 9)
		holdRefused(t, "ldap://h:"+port+"/", api.ErrHost, 9)
	}
}

// P18.3, step 3: pieces that are missing, without a byte, and more question marks than pieces.
func TestParsePieces(t *testing.T) {
	for _, s := range []string{"", "/", "/?", "/??", "/???", "/????"} {
		holdRead(t, "ldap://"+s, api.URL{})
		holdRead(t, "ldap://h"+s, api.URL{Host: "h"})
	}
	whole := "o=x?cn?one?(a=b)?x"
	want := api.URL{DN: "o=x", Attributes: []string{"cn"}, Scope: 1, HasScope: true, Filter: one(node(api.Equality, "a", "b")), Extensions: []api.Extension{{Type: "x"}}}
	holdRead(t, "ldap:///"+whole, want)
	for drop := range 32 {
		cuts, u := strings.Split(whole, "?"), want
		for place, clear := range []func(){func() { u.DN = "" }, func() { u.Attributes = nil }, func() { u.Scope, u.HasScope = 0, false }, func() { u.Filter = nil }, func() { u.Extensions = nil }} {
			if drop>>place&1 == 1 {
				cuts[place] = ""
				clear()
			}
		}
		holdRead(t, "ldap:///"+strings.Join(cuts, "?"), u)
		holdRead(t, "ldap:///"+strings.TrimRight(strings.Join(cuts, "?"), "?"), u)
	}
	holdRefused(t, "ldap:///?????", api.ErrExtension, 12)
	holdRefused(t, "ldap:///?????x", api.ErrExtension, 12)
	holdRefused(t, "ldap:///????x?", api.ErrExtension, 12)
	holdRefused(t, "ldap:///????x,y?,z", api.ErrExtension, 14)
	holdRefused(t, "ldap:///????x=?", api.ErrPercent, 14)
	holdRead(t, "ldap:///cn=a/b,o=x", api.URL{DN: "cn=a/b,o=x"}) // a further slash is the name's
	holdRead(t, "ldap:///????x=/", extended(valued("x", "/")))
}

// P18.3, step 4.
func TestParseName(t *testing.T) {
	for s, name := range map[string]string{
		"o=x": "o=x", "O=X": "O=X", "%6f%3Dx": "o=x", "o=a%2Cb=c": "o=a,b=c", "o=a,b=c": "o=a,b=c", "o=a%3Fb": "o=a?b", "o=%C3%a9": "o=\u00e9", "o=%5C,": "o=\\,", "cn=a%2bsn=b": "cn=a+sn=b", "o=%2541": "o=%41", "o=#0c0141": "o=#0c0141", "%20o=x%20": " o=x ", "o=%5c3c": "o=\\3c",
	} {
		holdRead(t, "ldap:///"+s, api.URL{DN: name})
		holdRead(t, "ldap://[::]:9/"+s+"?", api.URL{Host: "[::]", Port: 9, DN: name})
	}
	for _, s := range []string{"o", "=", "o=x,", ",", "o=x;c=y", "o=<", "o=%ff", "o=%00", "%20", "cn;x=y", "o=x,%6f", "o=" + strings.Repeat("a", 4095), "o=" + strings.Repeat("%61", 4095)} {
		holdRefused(t, "ldap:///"+s, api.ErrURLName, 8)
		holdRefused(t, "ldap://h/"+s+"?cn", api.ErrURLName, 9)
	}
	holdRead(t, "ldap:///o="+strings.Repeat("%61", 4094), api.URL{DN: "o=" + strings.Repeat("a", 4094)})
	for s, place := range map[string]int{"o=a b": 3, "o=\u00e9": 2, "%": 0, "o%3": 1, "o=%2x": 2, "o=x\x00": 3, "o=%zz %": 2, "o= %zz": 2, "o\x7f": 1} {
		holdRefused(t, "ldap:///"+s, api.ErrPercent, 8+place)
		holdRefused(t, "ldap://h:12/"+s+"??two", api.ErrPercent, 12+place)
	}
}

// P18.3, step 5.
func TestParseAttributes(t *testing.T) {
	for s, wishes := range map[string][]string{
		"cn": {"cn"}, "*": {"*"}, "+": {"+"}, "1.1": {"1.1"}, "%2a": {"*"}, "%2B,%31.1": {"+", "1.1"}, "CN;B;a,cn": {"CN;B;a", "cn"}, "cn,cn,*,+,1.1": {"cn", "cn", "*", "+", "1.1"}, "c%6E,2.5.4.3": {"cn", "2.5.4.3"}, "x-odd;-": {"x-odd;-"},
	} {
		holdRead(t, "ldap:///?"+s, api.URL{Attributes: wishes})
		holdRead(t, "ldap:///o=x?"+s+"?base", api.URL{DN: "o=x", Attributes: wishes, HasScope: true})
	}
	for s, place := range map[string]int{
		",": 0, "cn,": 3, ",cn": 0, "cn,,sn": 3, "**": 0, "*+": 0, "cn,1": 3, "cn;": 0, "cn%2Csn": 0, "cn%3Fsn": 0, "cn,sn%20": 3, "%20": 0, "_": 0, "a,b,c=d": 4, "(cn)": 0, "1.1.": 0, "!cn": 0, "cn/sn": 0, "*,%2c": 2,
	} {
		holdRefused(t, "ldap:///?"+s, api.ErrURLDesc, 9+place)
		holdRefused(t, "ldap:///o=x?"+s+"?two", api.ErrURLDesc, 12+place)
	}
	for s, place := range map[string]int{" ": 0, "cn ": 2, "cn,s n": 4, "%": 0, "cn,%4": 3, "cn%,": 2, "\u00e9": 0, "cn,sn,%zz": 6, "c%6,": 1} {
		holdRefused(t, "ldap:///?"+s, api.ErrPercent, 9+place)
	}
	holdRefused(t, "ldap:///?,%", api.ErrURLDesc, 9) // the first cut's fault, whatever follows
	holdRefused(t, "ldap:///?%,", api.ErrPercent, 9)
	holdRefused(t, "ldap:///?_ ", api.ErrPercent, 10) // of one cut the escapes ahead of the wish
}

// P18.3, step 6: the words in every case, and what is none.
func TestParseScope(t *testing.T) {
	for scope, word := range []string{"base", "one", "sub"} {
		for cases := range 1 << len(word) {
			s := []byte(word)
			for place := range s {
				if cases>>place&1 == 1 {
					s[place] -= 32
				}
			}
			holdRead(t, "ldap:///??"+string(s), api.URL{Scope: api.Scope(scope), HasScope: true})
		}
		for _, s := range []string{word + "x", "x" + word, word[1:], word[:len(word)-1], " " + word, word + " ", word + "," + word, word + word, "%" + word, word + "\x00"} {
			holdRefused(t, "ldap:///??"+s, api.ErrURLScope, 10)
			holdRefused(t, "ldap:///o=x?cn?"+s+"?(", api.ErrURLScope, 15)
		}
		holdRefused(t, fmt.Sprintf("ldap:///??%%%x%s", word[0], word[1:]), api.ErrURLScope, 10) // nothing is escaped in it
	}
	for _, s := range []string{"two", "0", "1", "2", "children", "subtree", "onelevel", "baseObject", "%", " ", "\u017fub"} {
		holdRefused(t, "ldap:///??"+s, api.ErrURLScope, 10)
	}
}

// P18.3, step 7.
func TestParseFilter(t *testing.T) {
	for s, f := range map[string]api.Filter{
		"(cn=*)": one(node(api.Present, "cn", "")), "(objectClass=*)": one(node(api.Present, "objectClass", "")), "%28cn=a%29": one(node(api.Equality, "cn", "a")), "(a=%5c2a)": one(node(api.Equality, "a", "*")), "(a=%2a)": one(node(api.Present, "a", "")),
		"(a=b,c%2cd)": one(node(api.Equality, "a", "b,c,d")), "(a=%3F%20%25)": one(node(api.Equality, "a", "? %")), "(a=%C3%A9)": one(node(api.Equality, "a", "\u00e9")), "(a>=1)": one(node(api.AtLeast, "a", "1")),
		"(&(a=b)(!(c=d)))": {{Depth: 1, Op: api.And}, {Depth: 2, Op: api.Equality, Desc: "a", Value: "b"}, {Depth: 2, Op: api.Not}, {Depth: 3, Op: api.Equality, Desc: "c", Value: "d"}},
		"(|)":              {{Depth: 1, Op: api.Or}},
	} {
		holdRead(t, "ldap:///???"+s, api.URL{Filter: f})
		holdRead(t, "ldap://h/o=x?cn?one?"+s+"?x", api.URL{Host: "h", DN: "o=x", Attributes: []string{"cn"}, Scope: 1, HasScope: true, Filter: f, Extensions: []api.Extension{{Type: "x"}}})
	}
	deep := strings.Repeat("(!", 64) + "(a=b)" + strings.Repeat(")", 64)
	for _, s := range []string{"cn=a", "(", "()", "(cn=a", "(cn=a))", "%20(cn=a)", "(c%20n=a)", "(a=%ff)", "(a=%00)", "(a=%5c2)", "(a=b)(c=d)", deep} {
		holdRefused(t, "ldap:///???"+s, api.ErrURLFilter, 11)
		holdRefused(t, "ldap:///o=x???"+s+"?!", api.ErrURLFilter, 14)
	}
	for s, place := range map[string]int{"(cn=a b)": 5, "(cn=%)": 4, "(cn=\u00e9)": 4, " ": 0, "x %": 1, "(a=\x00)": 3, "(a=%5c%2)": 6} {
		holdRefused(t, "ldap:///???"+s, api.ErrPercent, 11+place)
		holdRefused(t, "ldap:///?cn??"+s+"?!", api.ErrPercent, 13+place)
	}
}

// P18.3, step 8.
func TestParseExtensions(t *testing.T) {
	for s, u := range map[string]api.URL{
		"x": extended(api.Extension{Type: "x"}), "!x": extended(critical("x")), "x=": extended(valued("x", "")), "X-y=v": extended(valued("X-y", "v")), "1.2=v": extended(valued("1.2", "v")), "!x=": extended(api.Extension{Critical: true, Type: "x", HasValue: true}),
		"x,x,!x": extended(api.Extension{Type: "x"}, api.Extension{Type: "x"}, critical("x")), "x==": extended(valued("x", "=")), "x=a=b=": extended(valued("x", "a=b=")), "x=!y": extended(valued("x", "!y")), "x=%2C%3f%21,y": extended(valued("x", ",?!"), api.Extension{Type: "y"}),
		"x=%00%ff": extended(valued("x", "\x00\xff")), "x=,y=": extended(valued("x", ""), valued("y", "")), "x=/#[]": extended(valued("x", "/#[]")), "objectClass=*": extended(valued("objectClass", "*")), "x=%2541": extended(valued("x", "%41")),
	} {
		holdRead(t, "ldap:///????"+s, u)
	}
	for s, place := range map[string]int{
		"!": 0, ",": 0, "x,": 2, ",x": 0, "x,,y": 2, "=": 0, "=v": 0, "!=v": 0, "!!x": 0, "x!": 0, "x;y": 0, "x y": 0, "1": 0, "x,!": 2, "x,!1=v": 2, "%78": 0, "x%3Dv": 0, "x_=v": 0, "x,y=v,z z": 6, "?": 0, "x?": 0, "x?=v": 0, "!?": 0, "\u00e9": 0, "*": 0, "x,,%": 2,
	} {
		holdRefused(t, "ldap:///????"+s, api.ErrExtension, 12+place)
		holdRefused(t, "ldap://h/o=x?cn?one?(a=b)?"+s, api.ErrExtension, 26+place)
	}
	for s, place := range map[string]int{
		"x=a?b": 3, "x=?": 2, "x=%?b": 2, "x=%2?": 2, "x=a?%": 3, "x=a?b%": 3, "x=a%b?": 3, "x=a b": 3, "x=a b?": 3, "x=a?b c": 3, "x=%": 2, "x=%4": 2, "x=%zz": 2, "!x=%": 3, "x,!y=ab?": 7, "x=\u00e9": 2, "x=v,y=w,z=\x7f": 10, "x=a?,": 3, "x=%41?": 5, "x=%3f?,!": 5, "x=?,1": 2, "x=??": 2,
	} {
		holdRefused(t, "ldap:///????"+s, api.ErrPercent, 12+place)
		holdRefused(t, "ldap://h/o=x?cn?one?(a=b)?"+s, api.ErrPercent, 26+place)
	}
}

// P18.3: of faults in two pieces the one that stands ahead is told, whatever the other one is.
func TestParseTellsTheFirst(t *testing.T) {
	type bad struct {
		text   string
		number api.Errno
		place  int
	}
	// By the pieces, the host first; the places are those in the piece.
	all := [][]bad{
		{{"h_", api.ErrHost, 1}, {"h:0", api.ErrHost, 2}, {"[1]", api.ErrHost, 0}},
		{{"o", api.ErrURLName, 0}, {"o=%", api.ErrPercent, 2}},
		{{"cn,", api.ErrURLDesc, 3}, {"cn,%", api.ErrPercent, 3}},
		{{"two", api.ErrURLScope, 0}, {"%", api.ErrURLScope, 0}},
		{{"cn", api.ErrURLFilter, 0}, {"(cn=%)", api.ErrPercent, 4}},
		{{"x,", api.ErrExtension, 2}, {"x=%", api.ErrPercent, 2}, {"x=?", api.ErrPercent, 2}},
	}
	good := []string{"h:1", "o=x", "cn,sn", "sub", "(cn=a)", "x=v"}
	for first := range all {
		for second := first; second < len(all); second++ {
			for _, f := range all[first] {
				for _, g := range all[second] {
					cuts := append([]string(nil), good...)
					cuts[second], cuts[first] = g.text, f.text
					begin := len("ldap://")
					for _, cut := range cuts[:first] {
						begin += len(cut) + 1
					}
					holdRefused(t, "ldap://"+cuts[0]+"/"+strings.Join(cuts[1:], "?"), f.number, begin+f.place)
				}
			}
		}
	}
	holdRefused(t, "http://h_/o?,?two?x?!", api.ErrScheme, 0)
}

// P18.3: every short text behind the scheme, and behind a few fronts, against the chapter told a second time.
func TestParseShortTexts(t *testing.T) {
	seen := map[api.Errno]int{}
	hold := func(front string, longest int, letters ...string) {
		forAll(letters, longest, func(s string) { seen[holdParsed(t, front+s)]++ })
	}
	hold("ldap://", 5, "h", "0", "5", ":", "/", "[", "]", "?")
	hold("ldap://[", 6, ":", "a", "]", "/", "g")
	hold("ldap:///", 5, "o=x", "%", "4", "?", ",", " ")
	hold("ldap:///?", 5, "cn", "*", "1", ".", ",", "%2", "a", "?")
	hold("ldap:///???", 4, "(a=", ")", "*", "%2", "9", "?", "\xff")
	hold("ldap:///????", 5, "x", "!", "=", ",", "?", "%4", "1")
	hold("", 3, "l", "L", "dap:", "/", "ldap:/", "ldap://")
	for _, err := range []api.Errno{api.OK, api.ErrScheme, api.ErrHost, api.ErrPercent, api.ErrURLName, api.ErrURLDesc, api.ErrURLFilter, api.ErrExtension, api.ErrURLScope} {
		if seen[err] < 50 {
			t.Errorf("%d texts with the error %d are too few", seen[err], err)
		}
	}
}

// P18.3: many texts, good ones and damaged ones, against the chapter told a second time.
func TestParseByChance(t *testing.T) {
	m := newMaker(182)
	seen := map[api.Errno]int{}
	for range 30000 {
		u := m.url()
		s := m.written(u)
		if back, err, at := Parse(s); told(back) != told(u) || err != api.OK || at != 0 {
			t.Fatalf("Parse(%.300q) = %.500s, %d, %d; want %.500s", s, told(back), err, at, told(u))
		}
		seen[holdParsed(t, m.damaged(s))]++
		holdParsed(t, m.someBytes(12))
		holdParsed(t, "ldap://"+m.someBytes(12))
	}
	for number := api.ErrScheme; number <= api.ErrExtension; number++ {
		if seen[number] < 100 {
			t.Errorf("%d texts with the error %d are too few", seen[number], number)
		}
	}
	if seen[api.OK] < 1000 {
		t.Errorf("%d texts that are read are too few", seen[api.OK])
	}
}
