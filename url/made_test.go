package url

import (
	"fmt"
	"math/rand"
	"slices"
	"strings"

	"roster/api"
	"roster/filter"
)

// maker makes URLs and their texts by chance.
type maker struct{ *rand.Rand }

func newMaker(seed int64) maker { return maker{rand.New(rand.NewSource(seed))} }

func pick[E any](m maker, from ...E) E { return from[m.Intn(len(from))] }

// someBytes is a text of any bytes.
func (m maker) someBytes(longest int) string {
	b := make([]byte, m.Intn(longest+1))
	m.Read(b)
	return string(b)
}

// spellings are lists of texts that mean the same, each list another thing.
func nameSpellings() [][]string {
	return [][]string{
		{"", ""},
		{"o=x", "O=X", "organizationName= x ", "2.5.4.10=\\78"},
		{"o=a\\,b,c=d e", "O=A\\2cB , countryName=D  E"},
		{"cn=1+sn=b?%,o=x", "SN=B?%+commonName=1,o=X"},
		{"cn=\xc3\xa9,o=x", "CN=\\c3\\a9,O=x"},
		{"cn=[x]#", "CN=\\5BX]#"},
	}
}

func wishSpellings() [][]string {
	return [][]string{
		{"*"}, {"+"}, {"1.1"}, {"cn", "CN", "commonName", "2.5.4.3"}, {"cn;a;b", "CN;B;a", "commonname;b;A;b"}, {"sn", "Surname"}, {"x-odd", "X-ODD"}, {"1.10"}, {"1.1;x", "1.1;X"}, {"objectClass", "2.5.4.0"},
	}
}

func filterTexts() []string {
	return []string{"(objectClass=*)", "(objectclass=*)", "(2.5.4.0=*)", "(cn=A *)", "(cn=*a,b*c\\2a*)", "(a=\\00\\ff%?)", "(&(cn=a)(!(sn>=,)))", "(&)", "(cn:dn:2.5.13.5:=x y)", "(:rule:=)", "(cn~=\xc3\xa9)"}
}

func (m maker) name() string { return pick(m, pick(m, nameSpellings()...)...) }

func (m maker) wish() string { return pick(m, pick(m, wishSpellings()...)...) }

func (m maker) filter() api.Filter {
	f, err, at := filter.Parse(pick(m, filterTexts()...))
	if err != api.OK {
		panic(fmt.Sprint("no filter's text: ", err, at))
	}
	return f
}

func (m maker) host() string {
	return pick(m, "h", "H", "a.Example-1", "-", ".", strings.Repeat("a", 255), "[::]", "[2001:dB8::7]", "[2001:Db8::7]", "[::ffff:1.2.3.4]")
}

func (m maker) extension() api.Extension {
	e := api.Extension{Critical: m.Intn(6) == 0, Type: pick(m, "x", "X-y", "1.2", "bindname"), HasValue: m.Intn(2) == 0}
	if e.HasValue {
		e.Value = pick(m, "", "v", "=", "a,b=?!", "%41", m.someBytes(5))
	}
	return e
}

// url is one that is made well.
func (m maker) url() api.URL {
	u := api.URL{DN: m.name()}
	if m.Intn(2) == 0 {
		u.Host, u.Port = m.host(), pick(m, 0, 1, 389, 65535, 1+m.Intn(65535))
	}
	for range m.Intn(4) * m.Intn(2) {
		u.Attributes = append(u.Attributes, m.wish())
	}
	if m.Intn(2) == 0 {
		u.Scope, u.HasScope = api.Scope(m.Intn(3)), true
	}
	if m.Intn(2) == 0 {
		u.Filter = m.filter()
	}
	for range m.Intn(3) * m.Intn(2) {
		u.Extensions = append(u.Extensions, m.extension())
	}
	return u
}

// odd is a URL with something in it that may not be there; it may still be made well.
func (m maker) odd() api.URL {
	u := m.url()
	for range 1 + m.Intn(2) {
		switch m.Intn(12) {
		case 0:
			u.Port = pick(m, -1, 0, 5, 65535, 65536, 1<<40)
		case 1:
			u.Host = pick(m, "", "h_", "h:1", "[", "]", "[]", "[::", "::1", "[1:2]", "[::]]", "h/", "\xc3\xa9", m.someBytes(3), strings.Repeat("a", 256))
		case 2:
			u.DN = pick(m, "o", "o=", ",", "o=\xff", "cn=a;b", "o="+strings.Repeat("a", 4094), "o="+strings.Repeat("a", 4095), m.someBytes(3))
		case 3, 4:
			u.Attributes = append(u.Attributes, pick(m, "", "**", "c n", "1", "cn;", "cn,sn", "%2A", m.someBytes(2)))
			swapLast(m, u.Attributes)
		case 5:
			u.Scope = pick(m, api.Scope(-1), 0, 1, 2, 3, 7)
		case 6:
			u.HasScope = !u.HasScope
		case 7, 8:
			u.Filter = append(u.Filter, api.FilterNode{Depth: m.Intn(4), Op: api.FilterOp(m.Intn(12) - 1), Desc: pick(m, "", "cn", "c n")})
			swapLast(m, u.Filter)
		case 9:
			u.Filter = pick(m, one(node(api.Equality, "", "x")), one(node(api.Present, "c n", "")), one(node(api.Present, "objectClass", "x")), one(api.FilterNode{Depth: 2, Op: api.Present, Desc: "objectClass"}))
		default:
			u.Extensions = append(u.Extensions, api.Extension{Critical: m.Intn(2) == 0, Type: pick(m, "", "x", "x;y", "1", "!x", "x=", "\xff"), Value: pick(m, "", "v"), HasValue: m.Intn(2) == 0})
			swapLast(m, u.Extensions)
		}
	}
	return u
}

// swapLast moves the last of a list to any place.
func swapLast[E any](m maker, list []E) {
	at, last := m.Intn(len(list)), len(list)-1
	list[at], list[last] = list[last], list[at]
}

// search is one of which there may be a URL.
func (m maker) search() api.Search {
	u := m.url()
	if m.Intn(3) == 0 {
		u = m.odd()
	}
	q := api.Search{Base: u.DN, Scope: u.Scope, Filter: u.Filter, Attributes: u.Attributes}
	if m.Intn(3) == 0 {
		q.Deref, q.SizeLimit, q.TimeLimit, q.TypesOnly = m.Intn(9)-4, m.Intn(9)-4, m.Intn(9)-4, true
	}
	if m.Intn(4) == 0 {
		q.Filter = one(node(api.Present, "objectClass", ""))
	}
	return q
}

// written is a text that means the URL, with escapes that need not be.
func (m maker) written(u api.URL) string {
	s, _ := slowPrint(u)
	host, rest, _ := strings.Cut(s[7:], "/")
	cuts := strings.Split(rest, "?")
	for i := range cuts {
		if i != 2 {
			cuts[i] = m.escaped(cuts[i], i == 4)
		}
	}
	for m.Intn(3) == 0 && len(cuts) < 5 {
		cuts = append(cuts, "")
	}
	return pick(m, "ldap://", "LDAP://", "lDaP://") + host + "/" + strings.Join(cuts, "?")
}

// escaped escapes some more letters; of extensions none, as their types may have no escape.
func (m maker) escaped(s string, extensions bool) string {
	var out strings.Builder
	for i := 0; i < len(s); i++ {
		switch {
		case s[i] == '%' && m.Intn(2) == 0:
			out.WriteString(lower(s[i : i+3]))
			i += 2
		case s[i] == '%':
			out.WriteString(s[i : i+3])
			i += 2
		case s[i] != ',' && !extensions && m.Intn(5) == 0:
			fmt.Fprintf(&out, pick(m, "%%%02x", "%%%02X"), s[i])
		default:
			out.WriteByte(s[i])
		}
	}
	return out.String()
}

// damaged is a text with a few bytes changed, left out or put in.
func (m maker) damaged(s string) string {
	for range 1 + m.Intn(3) {
		at := m.Intn(len(s) + 1)
		end := min(len(s), at+m.Intn(3))
		s = s[:at] + pick(m, "", "?", ",", "%", "=", "!", " ", "/", ":", "[", "]", "x", "0", "%2", "%zz", "??", "\x7f", m.someBytes(2)) + s[end:]
	}
	return s
}

// respelt is a URL that asks for the same, written in another way.
func (m maker) respelt(u api.URL) api.URL {
	u.Host = pick(m, u.Host, lower(u.Host), strings.ToUpper(u.Host))
	if u.Host != "" && (u.Port == 0 || u.Port == 389) {
		u.Port = pick(m, 0, 389)
	}
	u.DN = m.otherOf(nameSpellings(), u.DN)
	if u.Scope == 0 {
		u.HasScope = m.Intn(2) == 0
	}
	u.Attributes = m.rewished(u.Attributes)
	if everyEntry := one(node(api.Present, "objectClass", "")); len(u.Filter) == 0 || told(u.Filter) == told(everyEntry) {
		u.Filter = pick(m, nil, everyEntry)
	}
	u.Extensions = slices.DeleteFunc(slices.Clone(u.Extensions), func(e api.Extension) bool { return !e.Critical && m.Intn(2) == 0 })
	return u
}

// otherOf is another spelling of a text that is among these.
func (m maker) otherOf(spellings [][]string, s string) string {
	for _, list := range spellings {
		if slices.Contains(list, s) {
			return pick(m, list...)
		}
	}
	return s
}

// rewished is a list that wishes the same.
func (m maker) rewished(wishes []string) []string {
	var out []string
	for _, wish := range wishes {
		for range 1 + m.Intn(2) {
			out = append(out, m.otherOf(wishSpellings(), wish))
		}
	}
	if len(out) > 0 && m.Intn(3) == 0 {
		out = slices.DeleteFunc(out, func(a string) bool { return a == "1.1" })
		out = append(out, "1.1")
	}
	if len(out) == 0 {
		out = pick(m, nil, []string{"*"}, []string{"*", "1.1"})
	}
	m.Shuffle(len(out), func(i, j int) { out[i], out[j] = out[j], out[i] })
	return out
}
