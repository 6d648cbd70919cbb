package url

import (
	"strings"
	"testing"

	"roster/api"
)

func holdPrinted(t *testing.T, u api.URL, want string) {
	t.Helper()
	if s, err := Print(u); s != want || err != api.OK {
		t.Errorf("Print(%.500s) = %.300q, %d; want %.300q", told(u), s, err, want)
	}
	holdURL(t, u)
}

// notMade are URLs that are not made well, in each of the ways that the chapter names; but for one thing each is.
func notMade() []api.URL {
	out := []api.URL{
		{Port: 5}, {Port: -1}, {Port: 389}, {Host: "h", Port: -1}, {Host: "h", Port: 65536}, {Host: "[::]", Port: 65536}, {Host: "h", Port: 1 << 40}, {Host: "h", Port: -1 << 63},
		{Scope: 1}, {Scope: 2}, {Scope: 3}, {Scope: -1}, {Scope: 3, HasScope: true}, {Scope: -1, HasScope: true}, {Scope: 1 << 40, HasScope: true}, {Scope: -1 << 63, HasScope: true},
		{Filter: api.Filter{{}}}, {Filter: one(node(api.Equality, "c n", "x"))}, {Filter: one(node(api.Equality, "", "x"))}, {Filter: one(node(api.Present, "cn", "x"))}, {Filter: one(node(10, "cn", ""))}, {Filter: one(node(-1, "cn", ""))}, {Filter: one(node(api.Not, "", ""))},
		{Filter: api.Filter{{Depth: 2, Op: api.Present, Desc: "cn"}}}, {Filter: api.Filter{node(api.Present, "cn", ""), node(api.Present, "sn", "")}}, {Filter: api.Filter{{Depth: 1, Op: api.Extensible, Desc: "cn", Rule: "dn"}}}, {Filter: api.Filter{{Depth: 1, Op: api.Present, Desc: "objectClass", DNAttrs: true}}},
	}
	for _, host := range []string{"h_", "h:1", "h/", " h", "h ", "u@h", "h?", "%41", "\u00e9", "\x00", "[", "]", "[]", "[:]", "[1:2]", "[::", "::]", "::1", "[::]]", "[[::]", "[::]x", "[::]:1", "[::g]", "[::" + strings.Repeat("f", 44) + "]", strings.Repeat("a", 256)} {
		out = append(out, api.URL{Host: host}, api.URL{Host: host, Port: 1})
	}
	for _, name := range []string{"o", "o=x,", ",", "o=\xff", "o=a;b", "cn=a+commonName=b", "o=" + strings.Repeat("a", 4095), " "} {
		out = append(out, api.URL{DN: name})
	}
	for _, wish := range []string{"", " ", "c n", "**", "*,+", "cn,sn", "cn;", "1", "%2A", "\u00e9", "?"} {
		out = append(out, api.URL{Attributes: []string{wish}}, api.URL{Attributes: []string{"cn", wish}}, api.URL{Attributes: []string{wish, "*"}})
	}
	for _, e := range []api.Extension{{}, {HasValue: true}, {Type: "x", Value: "v"}, {Type: "1"}, {Type: "x;y"}, {Type: "!x"}, {Type: "x="}, {Type: "x,y"}, {Type: " x"}, {Type: "*"}, {Type: "x", Value: "v", Critical: true}, {Critical: true}} {
		out = append(out, extended(e), extended(api.Extension{Type: "x"}, e), extended(e, valued("x", "v")))
	}
	return out
}

// P18.4: the chapter's examples.
func TestPrintExamples(t *testing.T) {
	holdPrinted(t, api.URL{DN: "o=a,b=c d"}, "ldap:///o=a,b=c%20d")
	holdPrinted(t, api.URL{Host: "h", Attributes: []string{"*", "cn;x"}, Scope: 2, HasScope: true}, "ldap://h/?*,cn;x?sub")
	if s, err := Print(api.URL{Port: 5}); s != "" || err != api.ErrURLMade {
		t.Errorf("a port without a host prints as %q, %d", s, err)
	}
}

// P18.4: each piece alone, with what must be escaped in it and what need not.
func TestPrintPieces(t *testing.T) {
	holdPrinted(t, api.URL{}, "ldap:///")
	holdPrinted(t, api.URL{Host: "H.x-1"}, "ldap://H.x-1/")
	holdPrinted(t, api.URL{Host: "h", Port: 1}, "ldap://h:1/")
	holdPrinted(t, api.URL{Host: "h", Port: 389}, "ldap://h:389/")
	holdPrinted(t, api.URL{Host: "[::A.1]", Port: 65535}, "ldap://[::A.1]:65535/")
	holdPrinted(t, api.URL{DN: "cn=a?b/c%#[]\u00e9\\,,o=%2C"}, "ldap:///cn=a%3Fb/c%25%23%5B%5D%C3%A9%5C,,o=%252C")
	holdPrinted(t, api.URL{DN: " O = x "}, "ldap:///%20O%20=%20x%20")
	holdPrinted(t, api.URL{Attributes: []string{"1.1", "+", "CN;B;a", "cn", "cn"}}, "ldap:///?1.1,+,CN;B;a,cn,cn")
	holdPrinted(t, api.URL{HasScope: true}, "ldap:///??base")
	holdPrinted(t, api.URL{HasScope: true, Scope: 1}, "ldap:///??one")
	holdPrinted(t, api.URL{HasScope: true, Scope: 2}, "ldap:///??sub")
	holdPrinted(t, api.URL{Filter: one(node(api.Present, "objectClass", ""))}, "ldap:///???(objectClass=*)")
	holdPrinted(t, api.URL{Filter: one(node(api.Equality, "cn", "a,b*?% \u00e9\x00"))}, "ldap:///???(cn=a,b%5C2a%3F%25%20%5Cc3%5Ca9%5C00)")
	holdPrinted(t, api.URL{Filter: one(node(api.AtLeast, "cn", "|&!"))}, "ldap:///???(cn%3E=%7C&!)")
	holdPrinted(t, api.URL{Filter: api.Filter{{Depth: 1, Op: api.Or}, {Depth: 2, Op: api.Substrings, Desc: "cn", Parts: api.Pattern{Any: []string{"%2C", ","}}}}}, "ldap:///???(%7C(cn=*%252C*,*))")
	holdPrinted(t, extended(api.Extension{Type: "X-y"}), "ldap:///????X-y")
	holdPrinted(t, extended(critical("1.2"), critical("1.2")), "ldap:///????!1.2,!1.2")
	holdPrinted(t, extended(valued("x", ""), api.Extension{Critical: true, Type: "y", Value: "v", HasValue: true}), "ldap:///????x=,!y=v")
	holdPrinted(t, extended(valued("x", "a,b=?!%2C\xff ")), "ldap:///????x=a%2Cb=%3F!%252C%FF%20")
	holdPrinted(t, api.URL{Host: "h", Port: 7, DN: "o=x", Attributes: []string{"cn"}, HasScope: true, Scope: 1, Filter: one(node(api.Present, "a", "")), Extensions: []api.Extension{{Type: "x"}}}, "ldap://h:7/o=x?cn?one?(a=*)?x")
}

// P18.4: pieces without a byte are left out at the end, and stand in the middle.
func TestPrintEnds(t *testing.T) {
	texts := []string{"o=x", "cn,sn", "one", "(a=b)", "!x=v,y"}
	for have := range 32 {
		var u api.URL
		var cuts []string
		for place, set := range []func(){
			func() { u.DN = "o=x" }, func() { u.Attributes = []string{"cn", "sn"} }, func() { u.Scope, u.HasScope = 1, true }, func() { u.Filter = one(node(api.Equality, "a", "b")) },
			func() {
				u.Extensions = []api.Extension{{Critical: true, Type: "x", Value: "v", HasValue: true}, {Type: "y"}}
			},
		} {
			cut := ""
			if have>>place&1 == 1 {
				set()
				cut = texts[place]
			}
			cuts = append(cuts, cut)
		}
		for len(cuts) > 0 && cuts[len(cuts)-1] == "" {
			cuts = cuts[:len(cuts)-1]
		}
		holdPrinted(t, u, "ldap:///"+strings.Join(cuts, "?"))
	}
}

// P18.4, P18.5, P18.7: what isn't made well is refused, with all else as it should be too.
func TestNotMadeWell(t *testing.T) {
	good := api.URL{Host: "h", Port: 7, DN: "o=x", Attributes: []string{"cn"}, HasScope: true, Scope: 1, Filter: one(node(api.Present, "a", "")), Extensions: []api.Extension{{Type: "x"}}}
	for _, bad := range notMade() {
		full := bad
		if bad.Host == "" && bad.Port == 0 {
			full.Host, full.Port = good.Host, good.Port
		}
		if bad.DN == "" {
			full.DN = good.DN
		}
		if bad.Attributes == nil {
			full.Attributes = good.Attributes
		}
		if bad.Scope == 0 && !bad.HasScope {
			full.Scope, full.HasScope = good.Scope, good.HasScope
		}
		if bad.Filter == nil {
			full.Filter = good.Filter
		}
		if bad.Extensions == nil {
			full.Extensions = good.Extensions
		}
		for _, u := range []api.URL{bad, full} {
			if s, err := Print(u); s != "" || err != api.ErrURLMade {
				t.Errorf("Print(%.500s) = %.300q, %d", told(u), s, err)
			}
			if q, err := Search(u); told(q) != "{}" || err != api.ErrURLMade {
				t.Errorf("Search(%.500s) = %s, %d", told(u), told(q), err)
			}
			if Same(u, u) || Same(u, good) || Same(good, u) || Same(u, api.URL{}) || Same(api.URL{}, u) {
				t.Errorf("Same of %.500s and another", told(u))
			}
			holdURL(t, u)
		}
	}
	if _, err := Print(good); err != api.OK {
		t.Errorf("Print(%s): %d", told(good), err)
	}
}

// P18.4: the edges of what is made well.
func TestMadeWell(t *testing.T) {
	for _, u := range []api.URL{
		{Host: strings.Repeat("a", 255)}, {Host: "[::]"}, {Host: "[::" + strings.Repeat("f", 43) + "]"}, {Host: "-", Port: 1}, {Host: ".", Port: 65535},
		{DN: "o=" + strings.Repeat("a", 4094)}, {DN: "cn="}, {Attributes: []string{"1.1", "*", "+"}}, {Scope: 2, HasScope: true}, {Filter: one(node(api.And, "", ""))}, {Filter: api.Filter{{Depth: 1, Op: api.Extensible, Rule: "r"}}},
		{Filter: api.Filter{}, Attributes: []string{}, Extensions: []api.Extension{}},
	} {
		if _, err := Print(u); err != api.OK {
			t.Errorf("Print(%.500s): %d", told(u), err)
		}
		holdURL(t, u)
	}
}

// P18.3, P18.4: many URLs, made well and not, against the chapter told a second time; and that Print of what Parse read stays as it is.
func TestPrintByChance(t *testing.T) {
	m := newMaker(183)
	refused := 0
	for range 8000 {
		holdURL(t, m.url())
		u := m.odd()
		holdURL(t, u)
		if !slowMade(u) {
			refused++
		}
		read, err, _ := Parse(m.damaged(m.written(m.url())))
		if err != api.OK {
			continue
		}
		first, err := Print(read)
		again, _, _ := Parse(first)
		second, _ := Print(again)
		if err != api.OK || first != second || told(again) != told(read) {
			t.Fatalf("%s prints as %q, and that as %q", told(read), first, second)
		}
	}
	if refused < 2000 || refused > 7600 {
		t.Errorf("%d URLs that aren't made well", refused)
	}
}
