package plan

import (
	"slices"
	"strings"
	"testing"

	"roster/api"
	"roster/filter"
	"roster/match"
)

// compiledText is what Compile makes of a filter, as two texts.
func compiledText(t *testing.T, f api.Filter) (yes, no string) {
	t.Helper()
	y, n, err := Compile(f)
	if err != api.OK {
		t.Fatalf("Compile(%s): %d", toldFilter(f), err)
	}
	return shown(t, y), shown(t, n)
}

func holdTexts(t *testing.T, f api.Filter, yes, no string) {
	t.Helper()
	if y, n := compiledText(t, f); y != yes || n != no {
		t.Errorf("Compile(%s) = %s and %s, want %s and %s", toldFilter(f), y, n, yes, no)
	}
	holdCompile(t, f)
}

// P15.1: the chapter's examples.
func TestCompileExamples(t *testing.T) {
	for _, c := range []struct{ text, yes, no string }{
		{"(CN=Ada  L)", `value(cn,ada\20l)`, `rest(value(cn,ada\20l))`},
		{"(commonName=*)", "has(cn)", "rest(has(cn))"},
		{"(foo=x)", "none", "none"}, {"(foo=*)", "none", "none"},
		{"(uidNumber=x)", "none", "none"},
		{"(uidNumber>=5)", "from(uidnumber,5)", "rest(from(uidnumber,5))"},
		{"(CN<=B  c)", `upto(cn,b\20c)`, `rest(upto(cn,b\20c))`},
		{"(mail>=a)", "none", "none"},
		{"(uidNumber=5*)", "none", "none"},
		{"(cn=ab*)", "has(cn)", "all"},
		{"(cn=Abc*bcd*)", "grams(cn,abc,bcd)", "all"},
		{"(&(cn=a)(foo=b))", "meet(value(cn,a),none)", "join(rest(value(cn,a)),none)"},
		{"(!(cn=a))", "rest(value(cn,a))", "value(cn,a)"},
		{"(!(uidNumber>=5))", "rest(from(uidnumber,5))", "from(uidnumber,5)"},
		{"(!(cn=ab*))", "all", "has(cn)"},
		{"(&)", "meet()", "join()"},
		{"(!(|(cn=a)(sn=*)))", "meet(rest(value(cn,a)),rest(has(sn)))", "join(value(cn,a),has(sn))"},
		{"(cn:caseExactMatch:=Ada)", "has(cn)", "all"},
		{"(cn:caseIgnoreMatch:=Ada)", "value(cn,ada)", "rest(value(cn,ada))"},
		{"(cn:integerMatch:=5)", "none", "none"},
		{"(:caseIgnoreMatch:=x)", "all", "all"}, {"(cn:dn:=x)", "all", "all"},
		{"(cn:nosuch:=x)", "none", "none"},
	} {
		holdTexts(t, parsed(t, c.text), c.yes, c.no)
	}
}

// P15.1: the lines of the table of items, where two of them could apply: the first does.
func TestFirstLineThatApplies(t *testing.T) {
	for _, c := range []struct {
		n       api.FilterNode
		yes, no string
	}{
		// A rule that isn't known stands ahead of all.
		{ext("", "nosuch", "x", false), "none", "none"}, {ext("", "nosuch", "x", true), "none", "none"}, {ext("cn", "nosuch", "x", true), "none", "none"}, {ext("foo", "nosuch", "x", true), "none", "none"},
		// No description, whatever the assertion and DNAttrs are.
		{ext("", "integerMatch", "x", false), "all", "all"}, {ext("", "integerMatch", "7", true), "all", "all"}, {ext("", "2.5.13.2", "", false), "all", "all"},
		// A type that isn't known, and no description at all, ahead of DNAttrs.
		{ext("foo", "", "x", true), "none", "none"}, {ext("foo", "caseIgnoreMatch", "x", true), "none", "none"}, {ext("c n", "", "x", true), "none", "none"}, {ext("foo", "", "x", false), "none", "none"},
		{with(api.Present, "", ""), "none", "none"}, {with(api.Equality, "", ""), "none", "none"}, {with(api.Present, "cn;", ""), "none", "none"}, {sub("", "abc", nil, ""), "none", "none"},
		// DNAttrs ahead of an assertion that is none, and of a rule that doesn't suit.
		{ext("uidNumber", "", "x", true), "all", "all"}, {ext("cn", "integerMatch", "x", true), "all", "all"}, {ext("cn", "caseIgnoreMatch", "Ann", true), "all", "all"}, {ext("cn", "", "", true), "all", "all"},
		// No order ahead of a value that is none.
		{with(api.AtLeast, "mail", "\x80"), "none", "none"}, {with(api.AtMost, "mail", "a"), "none", "none"}, {with(api.AtMost, "uidNumber", "x"), "none", "none"}, {with(api.AtLeast, "cn", ""), "none", "none"},
		// A rule that doesn't suit; one that does, with an assertion that is none; its own; another.
		{ext("cn", "caseIgnoreIA5Match", "a", false), "none", "none"}, {ext("cn", "caseIgnoreMatch", "", false), "none", "none"}, {ext("cn", "caseExactMatch", "", false), "none", "none"},
		{ext("labeledURI", "caseExactMatch", " A  b", false), `value(labeleduri,A\20b)`, `rest(value(labeleduri,A\20b))`}, {ext("labeledURI", "caseIgnoreMatch", " A  b", false), "has(labeleduri)", "all"},
		{ext("uidNumber", "integerMatch", "-7", false), "value(uidnumber,-7)", "rest(value(uidnumber,-7))"}, {ext("uidNumber", "integerOrderingMatch", "7", false), "has(uidnumber)", "all"}, {ext("uidNumber", "integerBitOrMatch", "9223372036854775808", false), "none", "none"},
		{ext("cn", "wordMatch", "a b", false), "none", "none"}, {ext("cn", "wordMatch", "a", false), "has(cn)", "all"}, {ext("cn", "caseIgnoreSubstringsMatch", "abc*", false), "has(cn)", "all"}, {ext("cn", "caseIgnoreSubstringsMatch", "abc", false), "none", "none"},
		{ext("member", "nameSubtreeMatch", "o=x", false), "has(member)", "all"}, {ext("member", "nameSubtreeMatch", "x", false), "none", "none"}, {ext("member", "2.5.13.1", "CN=a, O=x", false), `value(member,o=x\2ccn=a)`, `rest(value(member,o=x\2ccn=a))`},
	} {
		holdTexts(t, nodes(c.n), c.yes, c.no)
	}
}

// P15.1: descriptions that are a type's other name, its identifier, in another case, with options; such as are none, or of no known type.
func TestDescriptions(t *testing.T) {
	for desc, want := range map[string]string{
		"cn": "cn", "CN": "cn", "commonName": "cn", "2.5.4.3": "cn", "CommonName;Lang-EN;b;B;a": "cn;a;b;lang-en", "2.5.4.41;x": "name;x",
		"RFC822mailbox": "mail", "homeTelephoneNumber;-": "homephone;-",
	} {
		holdTexts(t, nodes(with(api.Present, desc, "")), "has("+want+")", "rest(has("+want+"))")
		holdTexts(t, nodes(with(api.Equality, desc, "1")), "value("+want+",1)", "rest(value("+want+",1))")
		holdTexts(t, nodes(with(api.Approx, desc, "1")), "value("+want+",1)", "rest(value("+want+",1))")
		holdTexts(t, nodes(ext(desc, "", "1", false)), "value("+want+",1)", "rest(value("+want+",1))")
		holdTexts(t, nodes(sub(desc, "", []string{"1"}, "")), "has("+want+")", "all")
		holdTexts(t, nodes(sub(desc, "", []string{"123"}, "")), "grams("+want+",123)", "all")
	}
	for _, desc := range slices.Concat(oddDescs, strangers) {
		if desc == "\xff" {
			continue // no filter has it
		}
		for _, n := range []api.FilterNode{with(api.Present, desc, ""), with(api.Equality, desc, "1"), with(api.Approx, desc, "1"), with(api.AtLeast, desc, "1"), with(api.AtMost, desc, "1"), sub(desc, "1", nil, ""), ext(desc, "", "1", false), ext(desc, "caseIgnoreMatch", "1", false)} {
			if n.Op == api.Extensible && desc == "" {
				continue
			}
			holdTexts(t, nodes(n), "none", "none")
		}
	}
}

// P15.1: each syntax, with values that are of it and such as are not, by each kind of item.
func TestSyntaxes(t *testing.T) {
	for _, one := range samples() {
		for _, value := range []string{one.value, one.same, one.less, one.more, one.none} {
			normal, of := match.Normal(one.s, value)
			d := one.canon + "," + slowShow(tieText(api.PlanHas, normal, ""))[len("has("):]
			equal := []string{"none", "none"}
			atLeast, atMost := equal, equal
			if of {
				equal = []string{"value(" + d, "rest(value(" + d + ")"}
			}
			if of && one.ordered {
				atLeast, atMost = []string{"from(" + d, "rest(from(" + d + ")"}, []string{"upto(" + d, "rest(upto(" + d + ")"}
			}
			holdTexts(t, nodes(with(api.Equality, one.desc, value)), equal[0], equal[1])
			holdTexts(t, nodes(with(api.Approx, one.desc, value)), equal[0], equal[1])
			holdTexts(t, nodes(ext(one.desc, "", value, false)), equal[0], equal[1])
			holdTexts(t, nodes(with(api.AtLeast, one.desc, value)), atLeast[0], atLeast[1])
			holdTexts(t, nodes(with(api.AtMost, one.desc, value)), atMost[0], atMost[1])
		}
		holdTexts(t, nodes(with(api.Present, one.desc, "")), "has("+one.canon+")", "rest(has("+one.canon+"))")
		if !one.partial {
			holdTexts(t, nodes(sub(one.desc, "123", nil, "")), "none", "none")
			continue
		}
		holdTexts(t, nodes(sub(one.desc, "123", nil, "")), "grams("+one.canon+",123)", "all")
		holdTexts(t, nodes(sub(one.desc, "12", nil, "3")), "has("+one.canon+")", "all")
	}
}

// P15.1: patterns without a gram, with grams in several pieces, with the same gram twice; pieces that get shorter, and such as the syntax doesn't have.
func TestPatterns(t *testing.T) {
	for _, c := range []struct {
		n   api.FilterNode
		yes string
	}{
		{sub("cn", "a", nil, ""), "has(cn)"}, {sub("cn", "ab", []string{"bc", "cd"}, "de"), "has(cn)"},
		{sub("cn", "ABC", nil, ""), "grams(cn,abc)"}, {sub("cn", "", nil, "Abc"), "grams(cn,abc)"}, {sub("cn", "", []string{"aBc"}, ""), "grams(cn,abc)"},
		{sub("cn", "zabc", []string{"xyz", "ab"}, "mno"), "grams(cn,abc,mno,xyz,zab)"},
		{sub("cn", "abc", []string{"abc", "ABC"}, "abc"), "grams(cn,abc)"}, {sub("cn", "", []string{"aaaa", "aaaaa"}, ""), "grams(cn,aaa)"}, {sub("cn", "bcd", []string{"abcd"}, "abc"), "grams(cn,abc,bcd)"},
		{sub("cn", "  ab", nil, "cd  "), "has(cn)"}, {sub("cn", "", []string{"a  b"}, ""), `grams(cn,a\20b)`}, {sub("cn", "", []string{"  a  "}, ""), `grams(cn,\20a\20)`}, {sub("cn", "ab  ", nil, "  cd"), `grams(cn,\20cd,ab\20)`},
		{sub("cn", "   ", nil, ""), "has(cn)"}, {sub("labeledURI", "aBc", nil, "abc"), "grams(labeleduri,aBc,abc)"},
		{sub("mobile", "1-2 3", nil, ""), "grams(mobile,123)"}, {sub("mobile", "1-- 2", nil, ""), "has(mobile)"}, {sub("x121Address", "", []string{"1 2", "3 4 5"}, ""), "grams(x121address,345)"},
		{sub("userPassword", "\xff(,", nil, ""), `grams(userpassword,\ff\28\2c)`}, {sub("cn", "é1", nil, ""), `grams(cn,\c3\a91)`},
	} {
		holdTexts(t, nodes(c.n), c.yes, "all")
	}
	for _, n := range []api.FilterNode{sub("cn", "\xff", nil, ""), sub("cn", "abc", []string{"abc", "\xc3"}, ""), sub("mail", "abc", nil, "é"), sub("x121Address", "123", nil, "a"), sub("mobile", "123", []string{"*"}, ""), sub("uidNumber", "123", nil, ""), sub("member", "cn=", nil, "")} {
		holdTexts(t, nodes(n), "none", "none")
	}
}

// P15.1: every rule on a description of every syntax, with assertions of all kinds.
func TestRules(t *testing.T) {
	ids := []string{"", "nope", "caseIgnoreMatc", " 2.5.13.2", "dn"}
	for r := 1; r <= 30; r++ {
		ids = append(ids, ruleNames[r])
	}
	own, other := 0, 0
	for _, one := range samples() {
		for _, id := range ids {
			for _, value := range []string{one.value, one.more, one.none, "a*b", "", "7", "word"} {
				f := nodes(ext(one.desc, id, value, false))
				holdCompile(t, f)
				holdCompile(t, nodes(ext(one.desc, id, value, true)))
				yes, no := compiledText(t, f)
				switch {
				case strings.HasPrefix(yes, "value("):
					own++
				case strings.HasPrefix(yes, "has("):
					other++
				case yes != "none" || no != "none":
					t.Errorf("Compile(%s) = %s and %s", toldFilter(f), yes, no)
				}
			}
		}
		r := match.RuleFor(one.s)
		holdTexts(t, nodes(ext(one.desc, strings.ToUpper(ruleNames[r]), one.value, false)), slowShow(tieText(api.PlanValue, one.canon, normalOf(one.s, one.value))), slowShow(tie(api.PlanRest, tieText(api.PlanValue, one.canon, normalOf(one.s, one.value)))))
	}
	if own == 0 || other == 0 {
		t.Errorf("%d and %d", own, other)
	}
}

func normalOf(s api.Syntax, value string) string {
	normal, _ := match.Normal(s, value)
	return normal
}

var ruleNames = []string{"", "caseIgnoreMatch", "caseExactMatch", "caseIgnoreIA5Match", "caseExactIA5Match", "numericStringMatch", "telephoneNumberMatch", "integerMatch", "booleanMatch", "octetStringMatch", "distinguishedNameMatch", "objectIdentifierMatch", "generalizedTimeMatch", "caseIgnoreOrderingMatch", "caseExactOrderingMatch", "numericStringOrderingMatch", "integerOrderingMatch", "octetStringOrderingMatch", "generalizedTimeOrderingMatch", "integerBitAndMatch", "integerBitOrMatch", "nameSubtreeMatch", "caseIgnoreListMatch", "bitStringMatch", "caseIgnoreSubstringsMatch", "caseExactSubstringsMatch", "caseIgnoreIA5SubstringsMatch", "numericStringSubstringsMatch", "telephoneNumberSubstringsMatch", "octetStringSubstringsMatch", "wordMatch"}

// P15.1: And, Or and Not of items, of one another, of nothing beneath them.
func TestCompileNodes(t *testing.T) {
	for _, c := range []struct{ text, yes, no string }{
		{"(|)", "join()", "meet()"}, {"(!(&))", "join()", "meet()"}, {"(!(|))", "meet()", "join()"}, {"(!(!(&)))", "meet()", "join()"},
		{"(&(cn=*))", "meet(has(cn))", "join(rest(has(cn)))"}, {"(|(cn=*))", "join(has(cn))", "meet(rest(has(cn)))"},
		{"(&(cn=*)(cn=*))", "meet(has(cn),has(cn))", "join(rest(has(cn)),rest(has(cn)))"},
		{"(&(&)(|))", "meet(meet(),join())", "join(join(),meet())"},
		{"(|(cn=b)(cn=a))", "join(value(cn,b),value(cn,a))", "meet(rest(value(cn,b)),rest(value(cn,a)))"},
		{"(!(!(cn=a)))", "value(cn,a)", "rest(value(cn,a))"}, {"(!(!(!(cn=a))))", "rest(value(cn,a))", "value(cn,a)"},
		{"(!(&(!(cn=a))(sn=*)))", "join(value(cn,a),rest(has(sn)))", "meet(rest(value(cn,a)),has(sn))"},
		{"(&(!(cn=abc*))(|(sn=*)(!(&(o=*)(!(foo=x))))))", "meet(all,join(has(sn),join(rest(has(o)),none)))", "join(grams(cn,abc),meet(rest(has(sn)),meet(has(o),none)))"},
		{"(&(!(|(cn=*)(sn=*)))(o=*))", "meet(meet(rest(has(cn)),rest(has(sn))),has(o))", "join(join(has(cn),has(sn)),rest(has(o)))"},
	} {
		holdTexts(t, parsed(t, c.text), c.yes, c.no)
	}
}

// P15.1: what is no filter has no plan, but the error of filter.Check.
func TestCompileRefuses(t *testing.T) {
	cn := with(api.Present, "cn", "")
	deep := chain(api.And, api.MaxFilter, nodes(cn))
	for _, c := range []struct {
		f    api.Filter
		want api.Errno
	}{
		{nil, api.ErrFilter}, {api.Filter{}, api.ErrFilter}, {nodes(with(api.Not, "", "")), api.ErrFilter}, {nodes(cn, cn), api.ErrFilter}, {nodes(with(10, "", "")), api.ErrFilter}, {nodes(with(-1, "", "")), api.ErrFilter},
		{nodes(api.FilterNode{Op: api.Present, Desc: "cn"}), api.ErrFilter}, {nodes(with(api.And, "cn", "")), api.ErrFilter}, {nodes(with(api.Present, "\xff", "")), api.ErrFilter}, {nodes(ext("", "", "x", true)), api.ErrFilter}, {nodes(sub("cn", "", nil, "")), api.ErrFilter}, {nodes(sub("cn", "a", []string{""}, "")), api.ErrFilter},
		{under(api.Not, nodes(cn), nodes(cn)), api.ErrFilter}, {under(api.Or, nodes(cn), nodes(with(api.Not, "", ""))), api.ErrFilter}, {append(nodes(with(api.And, "", "")), api.FilterNode{Depth: 3, Op: api.Or}), api.ErrFilter},
		{deep, api.ErrDeep}, {chain(api.Not, api.MaxFilter, nodes(cn)), api.ErrDeep}, {under(api.Or, nodes(cn), chain(api.Or, api.MaxFilter-1, nodes(cn))), api.ErrDeep},
		{append(nodes(with(api.And, "x", "")), deep[1:]...), api.ErrFilter},
	} {
		if yes, no, err := Compile(c.f); yes != nil || no != nil || err != c.want {
			t.Errorf("Compile(%s) = %s, %s, %d, want %d", toldFilter(c.f), listed(yes), listed(no), err, c.want)
		}
	}
}

// P15.1: filters as deep as may be: no node of theirs gets lost, and their plans are some.
func TestCompileDeep(t *testing.T) {
	for many := range api.MaxFilter {
		for _, last := range []api.Filter{nodes(with(api.Present, "cn", "")), nodes(with(api.And, "", "")), nodes(sub("cn", "abc", nil, ""))} {
			for _, o := range []api.FilterOp{api.And, api.Or, api.Not} {
				f := chain(o, many, last)
				holdCompile(t, f)
				compiledText(t, f)
			}
		}
	}
	yes, no, _ := Compile(chain(api.Or, api.MaxFilter-1, nodes(with(api.Present, "cn", ""))))
	if len(yes) != 64 || yes[63].Depth != 64 || len(no) != 65 || no[64].Depth != 65 {
		t.Errorf("%s and %s", listed(yes), listed(no))
	}
	// Nots between, and kids on every depth, ahead of the deep one and behind it.
	f := nodes(with(api.Equality, "cn", "x"))
	for many := 1; many < api.MaxFilter/2; many++ {
		f = under(api.Not, under(api.FilterOp(many%2), nodes(with(api.Present, "sn", "")), f, under(api.Not, nodes(with(api.Present, "cn", "")))))
	}
	if filter.Depth(f) != api.MaxFilter {
		t.Errorf("a depth of %d", filter.Depth(f))
	}
	holdCompile(t, f)
}

// grown are all filters of at most so many nodes that are made of these, And, Or and Not.
func grown(most int, items ...api.Filter) []api.Filter {
	bySize := make([][]api.Filter, most+1)
	for size := 1; size <= most; size++ {
		if size == 1 {
			bySize[1] = slices.Clone(items)
		} else {
			for _, f := range bySize[size-1] {
				bySize[size] = append(bySize[size], under(api.Not, f))
			}
		}
		for _, kids := range rows(bySize, size-1) {
			bySize[size] = append(bySize[size], under(api.And, kids...), under(api.Or, kids...))
		}
	}
	return slices.Concat(bySize...)
}

// rows are all rows of things with so many nodes in all.
func rows[E any](bySize [][]E, size int) [][]E {
	if size == 0 {
		return [][]E{nil}
	}
	var out [][]E
	for first := 1; first <= size; first++ {
		for _, behind := range rows(bySize, size-first) {
			for _, one := range bySize[first] {
				out = append(out, append([]E{one}, behind...))
			}
		}
	}
	return out
}

// P15.1: all small filters.
func TestCompileAllSmall(t *testing.T) {
	all := grown(5, nodes(with(api.Present, "cn", "")), nodes(sub("cn", "abcd", nil, "")), nodes(with(api.Equality, "foo", "x")))
	for _, f := range all {
		holdCompile(t, f)
	}
	if len(all) < 1000 {
		t.Errorf("only %d filters", len(all))
	}
}

// P15.1, and what follows: filters by chance; T and F of Not f are F and T of f.
func TestCompileAtRandom(t *testing.T) {
	m := newMaker(151)
	for range 4000 {
		f := m.filter(1 + m.Intn(6))
		holdCompile(t, f)
		yes, no, _ := Compile(f)
		turned, back, err := Compile(under(api.Not, f))
		if err != api.OK || !sameList(turned, no) || !sameList(back, yes) {
			t.Fatalf("Not of %s: %s and %s, %d", toldFilter(f), listed(turned), listed(back), err)
		}
		if !slowIsPlan(yes) || !slowIsPlan(no) {
			t.Fatalf("%s and %s are no plans", listed(yes), listed(no))
		}
	}
}
