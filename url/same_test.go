package url

import (
	"testing"

	"roster/api"
)

// holdSpelt holds Same of two texts' URLs.
func holdSpelt(t *testing.T, a, b string, same bool) {
	t.Helper()
	u, uErr, _ := Parse(a)
	v, vErr, _ := Parse(b)
	if uErr != api.OK || vErr != api.OK {
		t.Fatalf("%q or %q is no URL: %d, %d", a, b, uErr, vErr)
	}
	if Same(u, v) != same || Same(v, u) != same {
		t.Errorf("Same of %q and %q is %v and %v", a, b, Same(u, v), Same(v, u))
	}
	holdSame(t, u, v)
}

// P18.7: the chapter's examples.
func TestSameExamples(t *testing.T) {
	holdSpelt(t, "ldap:///O=X?CN?base", "ldap:///o=x?commonName", true)
	holdSpelt(t, "ldap://h/o=x", "ldap://H:389/o=x???", true)
}

// P18.7: hosts and ports.
func TestSameServer(t *testing.T) {
	holdSpelt(t, "ldap://", "ldap:///", true)
	holdSpelt(t, "ldap://h", "ldap://", false)
	holdSpelt(t, "ldap://h.Example", "LDAP://H.eXAMPLE", true)
	holdSpelt(t, "ldap://h", "ldap://h.", false)
	holdSpelt(t, "ldap://[2001:DB8::7]", "ldap://[2001:db8::7]:389", true)
	holdSpelt(t, "ldap://[::1]", "ldap://[::01]", false) // the text counts, not the address
	holdSpelt(t, "ldap://h:389", "ldap://h", true)
	holdSpelt(t, "ldap://h:389", "ldap://h:389", true)
	holdSpelt(t, "ldap://h:390", "ldap://h", false)
	holdSpelt(t, "ldap://h:390", "ldap://h:389", false)
	holdSpelt(t, "ldap://h:1", "ldap://h:1", true)
	holdSpelt(t, "ldap://h:636", "ldap://h", false)
	holdSpelt(t, "ldap://h:389", "ldap://", false)
}

// P18.7: names and scopes.
func TestSameBase(t *testing.T) {
	holdSpelt(t, "ldap:///cn=A%20%20b+sn=c,o=x", "ldap:///surname=C+2.5.4.3=a%20B,%20O=X", true)
	holdSpelt(t, "ldap:///o=a%5C,b", "ldap:///o=A%5C2CB", true)
	holdSpelt(t, "ldap:///o=a,o=b", "ldap:///o=b,o=a", false)
	holdSpelt(t, "ldap:///o=a,o=b", "ldap:///o=b", false)
	holdSpelt(t, "ldap:///o=x", "ldap:///o=y", false)
	holdSpelt(t, "ldap:///o=x", "ldap:///ou=x", false)
	holdSpelt(t, "ldap:///", "ldap:///o=", false)
	holdSpelt(t, "ldap:///??base", "ldap:///", true)
	holdSpelt(t, "ldap:///??BASE", "ldap:///??base", true)
	holdSpelt(t, "ldap:///??one", "ldap:///", false)
	holdSpelt(t, "ldap:///??sub", "ldap:///", false)
	holdSpelt(t, "ldap:///??sub", "ldap:///??one", false)
	holdSpelt(t, "ldap:///??sub", "ldap:///??SUB", true)
}

// P18.7: what is wished.
func TestSameWishes(t *testing.T) {
	for _, same := range [][2]string{
		{"", "*"}, {"", "*,*"}, {"", "1.1,*"}, {"*,1.1", "*"}, {"cn,sn", "sn,cn"}, {"cn,sn", "SN,commonName,2.5.4.3,surname"}, {"cn,cn", "cn"}, {"1.1", "1.1,1.1"}, {"1.1,cn", "cn"}, {"+,1.1", "+"}, {"*,+", "+,*,+"},
		{"cn;a;b", "CN;B;a;B"}, {"x-odd", "X-ODD"}, {"1.1;x,1.1", "1.1;X"}, {"1.1,cn,1.1,*", "*,CN"}, {"+,cn", "cn,+,1.1"},
	} {
		holdSpelt(t, "ldap:///?"+same[0], "ldap:///?"+same[1], true)
	}
	for _, other := range [][2]string{
		{"", "1.1"}, {"", "+"}, {"", "cn"}, {"*", "+"}, {"*", "*,+"}, {"+", "*,+"}, {"*,cn", "*"}, {"cn,sn", "cn"}, {"cn,sn", "cn,ou"}, {"cn", "name"}, {"cn", "cn;x"}, {"cn;a", "cn;b"}, {"cn;a;b", "cn;a"}, {"1.1", "cn"}, {"1.1", "*"}, {"1.1", "1.10"}, {"1.1", "1.1;x"}, {"1.1", "+,1.1"}, {"x-odd", "x-od"},
		{"cn,sn,l", "cn,sn,ou"},
	} {
		holdSpelt(t, "ldap:///?"+other[0], "ldap:///?"+other[1], false)
	}
}

// P18.7: filters are the same lists, field by field; none is that of everything.
func TestSameFilter(t *testing.T) {
	holdSpelt(t, "ldap:///???(objectClass=*)", "ldap:///", true)
	holdSpelt(t, "ldap:///???(objectClass=*)", "ldap:///???(objectClass=*)", true)
	holdSpelt(t, "ldap:///???(objectclass=*)", "ldap:///", false)
	holdSpelt(t, "ldap:///???(cn=a)", "ldap:///", false)
	holdSpelt(t, "ldap:///???(cn=a)", "ldap:///???(cn=%5c61)", true)
	holdSpelt(t, "ldap:///???(cn=a)", "ldap:///???(CN=a)", false)
	holdSpelt(t, "ldap:///???(cn=a)", "ldap:///???(cn=A)", false)
	holdSpelt(t, "ldap:///???(cn=a)", "ldap:///???(cn~=a)", false)
	holdSpelt(t, "ldap:///???(cn=a*)", "ldap:///???(cn=*a)", false)
	holdSpelt(t, "ldap:///???(%26(a=b)(c=d))", "ldap:///???(%26(c=d)(a=b))", false)
	holdSpelt(t, "ldap:///???(cn:dn:=a)", "ldap:///???(cn:=a)", false)
	holdSpelt(t, "ldap:///???(cn:DN:r:=a)", "ldap:///???(cn:dn:r:=a)", true)
}

// P18.7: extensions make no difference, but that a critical one is refused by Search.
func TestSameExtensions(t *testing.T) {
	holdSpelt(t, "ldap:///????x", "ldap:///", true)
	holdSpelt(t, "ldap:///????x=a,y", "ldap:///????z=b", true)
	holdSpelt(t, "ldap:///????!x", "ldap:///????!x", false)
	holdSpelt(t, "ldap:///????!x", "ldap:///", false)
	holdSpelt(t, "ldap:///????x,!y", "ldap:///????x", false)
}

// P18.7: one field that differs is enough, however many are the same.
func TestSameButForOne(t *testing.T) {
	u := api.URL{Host: "h", Port: 7, DN: "o=x", Attributes: []string{"cn"}, HasScope: true, Scope: 1, Filter: one(node(api.Present, "a", ""))}
	if !holdSame(t, u, u) {
		t.Error("a URL isn't the same as itself")
	}
	for _, change := range []func(v *api.URL){
		func(v *api.URL) { v.Host = "g" }, func(v *api.URL) { v.Port = 8 }, func(v *api.URL) { v.Port = 0 }, func(v *api.URL) { v.Host, v.Port = "", 0 }, func(v *api.URL) { v.DN = "o=y" }, func(v *api.URL) { v.DN = "" }, func(v *api.URL) { v.Attributes = []string{"sn"} }, func(v *api.URL) { v.Attributes = nil },
		func(v *api.URL) { v.Scope = 2 }, func(v *api.URL) { v.Scope, v.HasScope = 0, false }, func(v *api.URL) { v.Filter = one(node(api.Present, "b", "")) }, func(v *api.URL) { v.Filter = nil }, func(v *api.URL) { v.Extensions = []api.Extension{critical("x")} }, func(v *api.URL) { v.HasScope = false },
	} {
		v := u
		change(&v)
		if holdSame(t, u, v) {
			t.Errorf("Same of %s and %s", told(u), told(v))
		}
	}
}

// P18.7: many URLs and other spellings of them, against the chapter told a second time; it is an equivalence on what Search takes.
func TestSameByChance(t *testing.T) {
	m := newMaker(185)
	same := 0
	for range 6000 {
		u := m.url()
		v, w := m.respelt(u), m.respelt(u)
		_, err := Search(u)
		if holdSame(t, u, v) != (err == api.OK) || holdSame(t, v, w) != (err == api.OK) {
			t.Fatalf("%s, %s and %s are not the same", told(u), told(v), told(w))
		}
		if err == api.OK {
			same++
		}
		holdSame(t, u, m.url())
		holdSame(t, v, m.odd())
		x := m.respelt(u)
		switch m.Intn(5) {
		case 0:
			x.Host, x.Port = m.host(), 389
		case 1:
			x.DN = m.name()
		case 2:
			x.Attributes = append(x.Attributes, m.wish())
		case 3:
			x.Scope, x.HasScope = api.Scope(m.Intn(3)), true
		default:
			x.Filter = m.filter()
		}
		holdSame(t, u, x)
	}
	if same < 3000 {
		t.Errorf("%d URLs that are the same as others are too few", same)
	}
}

// P18.7: among a few wishes, every list of three against every other.
func TestSameEveryWish(t *testing.T) {
	var all []api.URL
	forAll([]string{"*", "+", "1.1", "cn", "CN"}, 3, func(s string) {
		all = append(all, api.URL{Attributes: wishesIn(s)})
	})
	for _, u := range all {
		for _, v := range all {
			holdSame(t, u, v)
		}
	}
}

// wishesIn are the wishes of a row of them.
func wishesIn(s string) []string {
	var out []string
	for s != "" {
		size := 1
		switch s[0] {
		case '1':
			size = 3
		case 'c', 'C':
			size = 2
		}
		out, s = append(out, s[:size]), s[size:]
	}
	return out
}
