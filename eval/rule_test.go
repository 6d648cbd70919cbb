package eval

import (
	"fmt"
	"strings"
	"testing"

	"roster/api"
)

// asked is what an Extensible item asks for, and what it is told.
type asked struct {
	rule, desc string
	names      bool
	value      string
	want       api.Truth
}

func holdRules(t *testing.T, e api.Entry, all []asked) {
	t.Helper()
	for _, c := range all {
		n := ext(1, c.desc, c.rule, c.value, c.names)
		holdItem(t, n, e, c.want)
		if got := slowItem(n, e); got != c.want {
			t.Errorf("the slow answer to %s is %d, want %d", told(list(n)), got, c.want)
		}
	}
}

// P14.2: the chapter's examples.
func TestRuleExamples(t *testing.T) {
	holdRules(t, ann(), []asked{
		{"", "", false, "Ann", U},
		{"", "cn", false, "ann", T},
		{"", "ou", false, "sales", F}, {"", "ou", true, "sales", T},
		{"caseIgnoreMatch", "", false, "ann", T},
		{"caseIgnoreMatch", "", true, "sales", T},
		{"caseExactMatch", "cn", false, "ann", F}, {"caseExactMatch", "cn", false, "Ann", T},
		{"integerMatch", "cn", false, "7", U},
		{"integerMatch", "", false, "7", T}, {"integerMatch", "", false, "x", U},
		{"nope", "cn", false, "Ann", U},
	})
}

// P14.2: Rule and Desc, each there and missing, good and not; both with DNAttrs and without.
func TestRuleAndDescription(t *testing.T) {
	for _, names := range []bool{false, true} {
		holdRules(t, ann(), []asked{
			{"", "", names, "", U}, {"", "", names, "7", U},
			{"nope", "", names, "Ann", U}, {" caseIgnoreMatch", "", names, "Ann", U}, {"2.5.13.02", "", names, "Ann", U}, {"\xff", "cn", names, "Ann", U}, {"cn", "cn", names, "Ann", U},
			{"", "c n", names, "Ann", U}, {"", "x-odd", names, "1", U}, {"", "cn;", names, "Ann", U},
			{"caseIgnoreMatch", "c n", names, "Ann", U}, {"caseIgnoreMatch", "x-odd", names, "1", U}, {"nope", "x-odd", names, "1", U},
			{"CASEignoreMATCH", "CN", names, "Ann", T}, {"2.5.13.2", "2.5.4.3", names, "Ann", T}, {"2.5.13.5", "name", names, "Ann", T},
			{"", "commonName", names, "ANN", T}, {"", "name", names, "ann ", T}, {"", "cn", names, "Bo", F}, {"", "cn;x", names, "Ann", F},
			// A rule that doesn't suit the syntax.
			{"caseIgnoreIA5Match", "cn", names, "Ann", U}, {"caseIgnoreMatch", "mail", names, "Ann", U}, {"objectIdentifierMatch", "cn", names, "Ann", U}, {"octetStringMatch", "cn", names, "Ann", U},
			{"caseIgnoreMatch", "uidNumber", names, "7", U}, {"integerMatch", "cn", names, "x", U},
			// An assertion that the rule doesn't take.
			{"", "cn", names, "", U}, {"", "sn", names, "", U}, {"", "uidNumber", names, "07", U}, {"caseIgnoreMatch", "cn", names, "\xff", U}, {"caseIgnoreMatch", "", names, "", U},
			{"integerBitAndMatch", "uidNumber", names, "9223372036854775808", U}, {"integerMatch", "uidNumber", names, "9223372036854775808", F},
			{"caseIgnoreSubstringsMatch", "cn", names, "ann", U}, {"caseIgnoreSubstringsMatch", "cn", names, "**", U}, {"wordMatch", "cn", names, "ann lee", U}, {"wordMatch", "", names, " ", U},
			{"distinguishedNameMatch", "", names, "bo", U}, {"distinguishedNameMatch", "", names, "cn=bo", F},
			// An assertion by the rule's own syntax, which isn't the description's.
			{"caseExactMatch", "cn", names, "ANN", F}, {"caseIgnoreOrderingMatch", "cn", names, "b", T}, {"caseIgnoreOrderingMatch", "cn", names, "ann", F}, {"caseExactOrderingMatch", "cn", names, "a", T},
			{"caseIgnoreSubstringsMatch", "cn", names, "A*n", T}, {"caseExactSubstringsMatch", "cn", names, "a*", F}, {"wordMatch", "name", names, "ann", T},
			{"integerBitAndMatch", "uidNumber", names, "5", T}, {"integerBitAndMatch", "uidNumber", names, "8", F}, {"integerBitOrMatch", "uidNumber", names, "12", T}, {"integerBitOrMatch", "", names, "8", F},
			{"mail", "", names, "", U}, {"caseIgnoreIA5Match", "mail", names, "", F}, {"", "mail", names, "", F}, {"", "mail", names, "\x80", U},
		})
	}
}

// P14.2: the names' pairs, of all parts, with several pairs, covered and not.
func TestRuleOnNames(t *testing.T) {
	e := named(`CN=Ann\2c Lee+uidNumber=7+mail=A@x+x-odd=1,organizationalUnitName=Sales + l=Oslo,member=cn\=Bo\,o\=x,gidNumber=x,c-ou=#04024869,labeledURI=URL`, at("uid", "u"))
	for _, c := range []asked{
		{"", "cn", true, "ann, LEE", T}, {"", "cn", true, "ann", F}, {"", "sn", true, "Ann, Lee", F},
		{"", "ou", true, "sales", T}, {"", "2.5.4.11", true, "sales", T}, {"", "ou", true, "hi", T}, {"", "c-ou", true, "hi", T}, {"", "c-ou", true, "sales", F}, {"", "name", true, "OSLO", T}, {"", "l", true, "oslo", T},
		{"", "name;lang-de", true, "oslo", F}, {"", "l;x", true, "oslo", F}, {"caseIgnoreMatch", "l;x", true, "oslo", F},
		{"", "uidNumber", true, "7", T}, {"", "gidNumber", true, "7", F}, {"", "gidNumber", true, "x", U}, {"", "mail", true, "a@X", T},
		{"", "member", true, "CN=bo, O=x", T}, {"", "distinguishedName", true, "CN=bo, O=x", T}, {"nameSubtreeMatch", "member", true, "o=x", T}, {"", "seeAlso", true, "CN=bo, O=x", F},
		{"", "x-odd", true, "1", U}, {"caseIgnoreMatch", "x-odd", true, "1", U},
		{"caseIgnoreMatch", "", true, "hi", T}, {"caseIgnoreMatch", "", true, "oslo", T}, {"caseIgnoreMatch", "", true, "url", T}, {"caseExactMatch", "", true, "URL", T}, {"caseExactMatch", "", true, "url", F}, {"caseExactMatch", "", true, "Oslo", T}, {"caseExactMatch", "", true, "oslo", F},
		{"caseIgnoreMatch", "", true, "7", F}, {"caseIgnoreMatch", "", true, "1", F}, {"caseIgnoreMatch", "", true, "a@x", F}, {"caseIgnoreMatch", "", true, "x", F}, {"caseIgnoreIA5Match", "", true, "a@x", T}, {"caseExactIA5Match", "", true, "a@x", F},
		{"integerMatch", "", true, "7", T}, {"integerMatch", "", true, "8", F}, {"integerOrderingMatch", "", true, "8", T}, {"distinguishedNameMatch", "", true, "cn=bo,o=x", T}, {"distinguishedNameMatch", "", true, "o=x", F}, {"nameSubtreeMatch", "", true, "o=X", T},
		{"caseExactMatch", "labeledURI", true, "URL", T}, {"caseIgnoreMatch", "labeledURI", true, "url", T}, {"", "labeledURI", true, "url", F},
	} {
		holdRules(t, e, []asked{c})
		// Without DNAttrs nothing is found, and Undefined is what was.
		c.names = false
		if c.want == T {
			c.want = F
		}
		holdRules(t, e, []asked{c})
	}
	// The attributes count beside the name.
	holdRules(t, e, []asked{{"caseIgnoreMatch", "", true, "U", T}, {"caseIgnoreMatch", "", false, "U", T}, {"", "uid", true, "U", T}, {"", "uid", false, "U", T}})
}

// P14.2: a name that doesn't parse has no pairs, the entry's attributes count still; the empty name has none.
func TestRuleOnNamesThatAreNone(t *testing.T) {
	long := "cn=Ann,o=" + strings.Repeat("x", api.MaxName)
	for _, name := range []string{"ou", "cn=Ann,", "cn=Ann,ou", "cn=Ann;o=x", " ", ",", "cn=Ann\xff", "cn=Ann+commonName=Ann", "cn=Ann,o=\\", long, "", strings.Repeat("cn=Ann,", api.MaxParts) + "o=x"} {
		e := named(name, at("uid", "Bo"))
		for _, desc := range []string{"", "cn", "name"} {
			holdRules(t, e, []asked{{"caseIgnoreMatch", desc, true, "Ann", F}})
		}
		holdRules(t, e, []asked{{"", "cn", true, "Ann", F}, {"caseIgnoreMatch", "", true, "Bo", T}, {"", "uid", true, "bo", T}})
	}
	// What is parsed is the Name; the Key makes no difference.
	e := api.Entry{Name: "o=x", Key: []string{"cn=ann"}}
	holdRules(t, e, []asked{{"", "cn", true, "ann", F}, {"", "o", true, "x", T}})
	// As many parts and pairs as may be.
	parts := strings.Repeat("o=x,", api.MaxParts-1) + "o=x+cn=Ann"
	holdRules(t, named(parts), []asked{{"", "cn", true, "ann", T}, {"caseIgnoreMatch", "", true, "ann", T}})
	pairs := "o=x,o=1+ou=2+l=3+st=4+c=5+title=6+uidNumber=7+cn=Ann,o=x"
	holdRules(t, named(pairs), []asked{{"", "cn", true, "ann", T}, {"integerMatch", "", true, "7", T}, {"caseIgnoreMatch", "", true, "7", F}, {"", "name", true, "5", T}, {"", "name", true, "7", F}})
}

// P14.2: without a description every attribute counts whose syntax the rule suits, with that syntax.
func TestRuleWithoutDescription(t *testing.T) {
	for _, one := range samples() {
		for _, other := range samples() {
			rule := equalities[one.s]
			want := F
			if one.s == other.s {
				want = T
			}
			e := named("o=x", at("x-odd", one.value), at(""), at("c n", one.value), at(other.canon+";x", one.none, one.value))
			n := ext(1, "", rule, one.same, true)
			if related(one.s, other.s) {
				want = slowItem(n, e)
			}
			holdItem(t, n, e, want)
			// With a description the rule must suit its syntax.
			n.Desc = other.desc
			if !related(one.s, other.s) {
				want = U
			}
			holdItem(t, n, e, want)
		}
	}
}

// equalities are the rules of equality, by their syntax.
var equalities = []string{"", "caseIgnoreMatch", "caseExactMatch", "caseIgnoreIA5Match", "caseExactIA5Match", "numericStringMatch", "telephoneNumberMatch", "integerMatch", "booleanMatch", "octetStringMatch", "distinguishedNameMatch", "objectIdentifierMatch", "generalizedTimeMatch", "caseIgnoreListMatch", "bitStringMatch"}

// related tells whether two syntaxes share their rules.
func related(a, b api.Syntax) bool {
	pair := [2]api.Syntax{min(a, b), max(a, b)}
	return a == b || pair == [2]api.Syntax{api.SynText, api.SynExact} || pair == [2]api.Syntax{api.SynIA5, api.SynIA5Exact}
}

// P14.2: without a rule it is that of the description's equality, so the item is an Equality.
func TestRuleOfTheDescription(t *testing.T) {
	for _, e := range someEntries() {
		for _, desc := range someDescs() {
			for _, value := range someValues() {
				holdItem(t, ext(1, desc, "", value, false), e, Item(eq(1, desc, value), e))
			}
		}
	}
}

// P14.2: every rule with some descriptions and values, with DNAttrs and without.
func TestRulesAllThrough(t *testing.T) {
	rules := append([]string{"caseIgnoreOrderingMatch", "caseExactOrderingMatch", "numericStringOrderingMatch", "integerOrderingMatch", "octetStringOrderingMatch", "2.5.13.28", "integerBitAndMatch", "1.2.840.113556.1.4.804", "nameSubtreeMatch", "caseIgnoreSubstringsMatch", "2.5.13.7", "caseIgnoreIA5SubstringsMatch", "numericStringSubstringsMatch", "telephoneNumberSubstringsMatch", "octetStringSubstringsMatch", "WordMatch", "nope", "2.5.13.1.1"}, equalities...)
	descs, values := append(someDescs()[:5:5], "", "ou", "x-odd", "c n", "labeledURI", "uidNumber", "gidNumber", "distinguishedName", "createTimestamp"), someValues()
	for place, e := range someEntries() {
		t.Run(fmt.Sprint(place), func(t *testing.T) {
			t.Parallel()
			for number, rule := range rules {
				for _, desc := range descs {
					// Each second value of one rule, the others of the next: all of them would take too long.
					for i := number % 2; i < len(values); i += 2 {
						n := ext(1, desc, rule, values[i], (number+i/2)%2 == 0)
						holdItem(t, n, e, slowItem(n, e))
					}
				}
			}
		})
	}
}
