package match

import (
	"math"
	"math/rand"
	"strconv"
	"strings"
	"testing"

	"roster/api"
)

// P6.9: every rule by its name in any case and by its identifier.
func TestRuleOf(t *testing.T) {
	if len(slowRules) != int(api.RuleWord)+1 {
		t.Fatalf("there are %d rows", len(slowRules))
	}
	for number, row := range slowRules[1:] {
		for _, id := range []string{row.name, strings.ToLower(row.name), strings.ToUpper(row.name), row.id} {
			if r, ok := RuleOf(id); int(r) != number+1 || !ok {
				t.Errorf("RuleOf(%q) = %d, %v; want %d", id, r, ok, number+1)
			}
		}
	}
}

// P6.9: what is near to a name or an identifier, and is none.
func TestRuleOfNone(t *testing.T) {
	known := map[string]bool{}
	for _, row := range slowRules[1:] {
		known[lower(row.name)], known[row.id] = true, true
	}
	hold := func(id string) {
		if r, ok := RuleOf(id); ok != known[lower(id)] || ok != (r != api.RuleNone) {
			t.Errorf("RuleOf(%q) = %d, %v", id, r, ok)
		}
	}
	for _, row := range slowRules[1:] {
		forAllNear(row.id, hold)
		forAllNear(row.name, hold)
	}
	for _, id := range []string{"", " ", "0", " 2.5.13.15", "2.5.13.15 ", "02.5.13.15", "RuleText", "1", "wordMatch;x", "oid.2.5.13.2", "ca\u017feIgnoreMatch", "\u212aeyMatch", "boolean\u017fMatch"} {
		hold(id)
		if _, ok := RuleOf(id); ok {
			t.Errorf("RuleOf(%q) is a rule", id)
		}
	}
}

// P6.10
func TestRuleFor(t *testing.T) {
	for _, s := range allSyntaxes() {
		want := api.RuleNone
		for number, row := range slowRules {
			if row.asks == "equality" && row.own == s {
				want = api.Rule(number)
			}
		}
		if got := RuleFor(s); got != want {
			t.Errorf("RuleFor(%d) = %d; want %d", s, got, want)
		}
		if (want == api.RuleNone) != (s < 1 || s > 14) {
			t.Errorf("the table has the rule %d for %d", want, s)
		}
	}
}

// P6.11: every rule with every syntax, and numbers that are none.
func TestSuits(t *testing.T) {
	for _, r := range allRules() {
		for _, s := range allSyntaxes() {
			if got, want := Suits(r, s), slowSuits(r, s); got != want {
				t.Errorf("Suits(%d, %d) = %v", r, s, got)
			}
		}
	}
	for _, c := range []struct {
		r    api.Rule
		s    api.Syntax
		want bool
	}{
		{api.RuleText, api.SynExact, true}, {api.RuleText, api.SynIA5, false}, {api.RuleWord, api.SynExact, true}, {api.RuleIA5Pieces, api.SynIA5Exact, true},
		{api.RuleExact, api.SynText, true}, {api.RuleIA5Exact, api.SynIA5, true}, {api.RuleIA5, api.SynText, false}, {api.RuleNone, api.SynNone, false}, {api.RuleText, api.SynNone, false},
		{31, 31, false}, {-1, -1, false}, {api.RuleNone, api.SynText, false},
	} {
		if got := Suits(c.r, c.s); got != c.want {
			t.Errorf("Suits(%d, %d) = %v", c.r, c.s, got)
		}
	}
}

// P6.12: the chapter's examples, and more of their kind.
func TestAssertsExamples(t *testing.T) {
	for _, c := range []struct {
		r         api.Rule
		assertion string
		want      bool
	}{
		{api.RuleInteger, "9223372036854775808", true},
		{api.RuleIntegerOrder, "9223372036854775808", true},
		{api.RuleBitAnd, "9223372036854775808", false},
		{api.RuleBitAnd, "9223372036854775807", true},
		{api.RuleBitAnd, "x", false},
		{api.RuleBitAnd, "", false},
		{api.RuleBitAnd, "+1", false},
		{api.RuleBitAnd, "01", false},
		{api.RuleBitOr, "-9223372036854775808", true},
		{api.RuleBitOr, "-9223372036854775809", false},
		{api.RuleBitOr, "1" + strings.Repeat("0", 1000), false},
		{api.RuleText, "", false},
		{api.RuleText, " ", true},
		{api.RuleOctet, "", true},
		{api.RuleOctetOrder, "", true},
		{api.RuleSubtree, "", true},
		{api.RuleSubtree, "cn", false},
		{api.RuleTime, "2024", false},
		{api.RuleTextPieces, "", false},
		{api.RuleTextPieces, "*", false},
		{api.RuleTextPieces, "**", false},
		{api.RuleTextPieces, "***", false},
		{api.RuleTextPieces, "a", false},
		{api.RuleTextPieces, "a*", true},
		{api.RuleTextPieces, "*a", true},
		{api.RuleTextPieces, "*a*", true},
		{api.RuleTextPieces, "a**b", false},
		{api.RuleTextPieces, "**a", false},
		{api.RuleTextPieces, "a**", false},
		{api.RuleTextPieces, " *", true},
		{api.RuleTextPieces, `\2A`, false},
		{api.RuleTextPieces, `\2A*\2a*\5c*\5C`, true},
		{api.RuleTextPieces, `a*\b`, false},
		{api.RuleTextPieces, `a*\24`, false},
		{api.RuleTextPieces, `a\2*A`, false},
		{api.RuleTextPieces, `a*\`, false},
		{api.RuleTextPieces, `a*\2`, false},
		{api.RuleTextPieces, "a*\xff", false},
		{api.RuleTextPieces, "\xc3*\xa9", false},
		{api.RuleIA5Pieces, "\u00e9*", false},
		{api.RuleNumericPieces, "1*a", false},
		{api.RuleNumericPieces, "1* ", true},
		{api.RulePhonePieces, "1*-", true},
		{api.RulePhonePieces, `1*\2a`, false},
		{api.RuleOctetPieces, "a*\xff", true},
		{api.RuleWord, "bo ", true},
		{api.RuleWord, "a b", false},
		{api.RuleWord, "a\tb", false},
		{api.RuleWord, "a\u00a0b", true},
		{api.RuleWord, "  ", false},
		{api.RuleWord, "", false},
		{api.RuleWord, "\xff", false},
		{api.RuleNone, "a", false},
		{api.RuleNone, "", false},
		{31, "a", false},
		{-1, "", false},
	} {
		if got := Asserts(c.r, c.assertion); got != c.want {
			t.Errorf("Asserts(%d, %q) = %v", c.r, c.assertion, got)
		}
	}
}

// P6.13: the chapter's examples, and more of their kind.
func TestByRuleExamples(t *testing.T) {
	for _, c := range []struct {
		r                api.Rule
		s                api.Syntax
		value, assertion string
		want             api.Truth
	}{
		{api.RuleIntegerOrder, api.SynInteger, "5", "12", api.True},
		{api.RuleIntegerOrder, api.SynInteger, "12", "12", api.False},
		{api.RuleIntegerOrder, api.SynInteger, "x", "12", api.False},
		{api.RuleTextOrder, api.SynExact, "b", "A", api.False},
		{api.RuleTextOrder, api.SynText, "A", "b", api.True},
		{api.RuleExactOrder, api.SynText, "a", "B", api.False},
		{api.RuleNumericOrder, api.SynNumeric, "1 0", "9", api.True},
		{api.RuleOctetOrder, api.SynOctet, "", "\x00", api.True},
		{api.RuleTimeOrder, api.SynTime, "2024010112+01", "2024010112Z", api.True},
		{api.RuleText, api.SynIA5, "a", "a", api.Undefined},
		{api.RuleExact, api.SynText, "a ", "A", api.False},
		{api.RuleText, api.SynExact, "a ", "A", api.True},
		{api.RuleIA5, api.SynIA5Exact, "X", "x", api.True},
		{api.RuleIA5Exact, api.SynIA5, "X", "x", api.False},
		{api.RuleBitAnd, api.SynInteger, "7", "5", api.True},
		{api.RuleBitAnd, api.SynInteger, "-1", "12", api.True},
		{api.RuleBitAnd, api.SynInteger, "0", "0", api.True},
		{api.RuleBitAnd, api.SynInteger, "6", "5", api.False},
		{api.RuleBitAnd, api.SynInteger, "9223372036854775807", "-9223372036854775808", api.False},
		{api.RuleBitAnd, api.SynInteger, "-9223372036854775808", "-9223372036854775808", api.True},
		{api.RuleBitAnd, api.SynInteger, "9223372036854775808", "0", api.False},
		{api.RuleBitAnd, api.SynInteger, "x", "0", api.False},
		{api.RuleBitOr, api.SynInteger, "8", "7", api.False},
		{api.RuleBitOr, api.SynInteger, "5", "0", api.False},
		{api.RuleBitOr, api.SynInteger, "-8", "8", api.True},
		{api.RuleBitOr, api.SynInteger, "1", "9223372036854775808", api.Undefined},
		{api.RuleBitOr, api.SynInteger, "9223372036854775808", "1", api.False},
		{api.RuleBitOr, api.SynInteger, "-9223372036854775809", "-1", api.False},
		{api.RuleSubtree, api.SynName, "cn=a, O=B", "o=b", api.True},
		{api.RuleSubtree, api.SynName, "o=b", "cn=a,o=b", api.False},
		{api.RuleSubtree, api.SynName, "o=b", "", api.True},
		{api.RuleSubtree, api.SynName, "", "", api.True},
		{api.RuleSubtree, api.SynName, "o=b", "O=B", api.True},
		{api.RuleSubtree, api.SynName, "o=bc", "o=b", api.False},
		{api.RuleSubtree, api.SynName, "cn", "", api.False},
		{api.RuleSubtree, api.SynName, "o=b", "cn", api.Undefined},
		{api.RuleTextPieces, api.SynText, "Ann Bo", "a*N b*", api.True},
		{api.RuleExactPieces, api.SynText, "Ann Bo", "a*", api.False},
		{api.RuleOctetPieces, api.SynOctet, "a*b", `*\2A*`, api.True},
		{api.RuleOctetPieces, api.SynOctet, "ab", `*\2A*`, api.False},
		{api.RuleOctetPieces, api.SynOctet, `a\b`, `a\5cb*`, api.True},
		{api.RuleTextPieces, api.SynText, "a", "a", api.Undefined},
		{api.RuleTextPieces, api.SynText, "a", "**", api.Undefined},
		{api.RuleTextPieces, api.SynText, "a", `a*\b`, api.Undefined},
		{api.RuleTextPieces, api.SynText, "", "a*", api.False},
		{api.RuleNumericPieces, api.SynNumeric, "12 34", "*2 3*", api.True},
		{api.RulePhonePieces, api.SynPhone, "+1-2", "+12*", api.True},
		{api.RuleIA5Pieces, api.SynIA5Exact, "", " *", api.True},
		{api.RuleWord, api.SynText, "Ann  van BO", "bo ", api.True},
		{api.RuleWord, api.SynExact, "Ann  van BO", "VAN", api.True},
		{api.RuleWord, api.SynText, "Ann Bob", "bo", api.False},
		{api.RuleWord, api.SynText, "Ann Bo", "ann bo", api.Undefined},
		{api.RuleWord, api.SynText, " ", "x", api.False},
		{api.RuleWord, api.SynText, "", "x", api.False},
		{api.RuleList, api.SynList, "A$b", "a$B", api.True},
		{api.RuleBits, api.SynBits, "'1'B", "'01'B", api.False},
		{api.RuleNone, api.SynText, "a", "a", api.Undefined},
		{api.RuleText, api.SynNone, "a", "a", api.Undefined},
		{31, api.SynText, "a", "a", api.Undefined},
		{-1, -1, "", "", api.Undefined},
	} {
		if got := ByRule(c.r, c.s, c.value, c.assertion); got != c.want {
			t.Errorf("ByRule(%d, %d, %q, %q) = %d; want %d", c.r, c.s, c.value, c.assertion, got, c.want)
		}
		holdRule(t, c.r, c.s, c.value, c.assertion)
	}
}

// P6.11, P6.12, P6.13: every rule, by every syntax, at the samples of its own, and at pieces of them.
func TestByRuleOfSamples(t *testing.T) {
	for _, r := range allRules() {
		own := samples[max(0, slowAt(r).own)]
		for _, s := range allSyntaxes() {
			for _, value := range own {
				for _, assertion := range own {
					holdRule(t, r, s, value, assertion)
					holdRule(t, r, s, value, assertion+"*")
				}
				holdRule(t, r, s, value, "")
				holdRule(t, r, s, "\xff", value)
			}
		}
	}
}

// P6.12, P6.13: values and assertions at random, most of them of the rule's own syntax.
func TestByRuleAtRandom(t *testing.T) {
	r := rand.New(rand.NewSource(69))
	for _, rule := range allRules() {
		own := slowAt(rule).own
		for range 3000 {
			value, assertion := someValue(r), someValue(r)
			if len(samples[own]) > 0 && r.Intn(3) > 0 {
				value = pick(r, samples[own]...)
			}
			if r.Intn(2) == 0 {
				at := r.Intn(len(value) + 1)
				assertion = pick(r, value, value[:at], value[:at]+"*"+value[at:], "*"+value[at:], value[at:]+"*", value[:at]+" ")
			}
			holdRule(t, rule, own, value, assertion)
		}
	}
}

// P6.12, P6.13: every short text of a pattern, at values with stars and backslashes in them.
func TestByRuleOfPatterns(t *testing.T) {
	forAll(`*\2Aa5c`, 5, func(assertion string) {
		holdRule(t, api.RuleOctetPieces, api.SynOctet, `a*\c2`, assertion)
	})
	forAll("* aB", 5, func(assertion string) {
		holdRule(t, api.RuleTextPieces, api.SynText, "Ab ba", assertion)
		holdRule(t, api.RuleExactPieces, api.SynExact, "aB aa", assertion)
	})
	forAll("*1 -a", 5, func(assertion string) {
		holdRule(t, api.RuleNumericPieces, api.SynNumeric, "11 1", assertion)
		holdRule(t, api.RulePhonePieces, api.SynPhone, "1-A 1", assertion)
		holdRule(t, api.RuleIA5Pieces, api.SynIA5, "1-A 1 ", assertion)
	})
}

// P6.12, P6.13: bits, at the ends of 64 and beyond them.
func TestByRuleOfBits(t *testing.T) {
	numbers := []string{"9223372036854775808", "-9223372036854775809", "18446744073709551615", "18446744073709551616", "-0", "00", "x", ""}
	for _, n := range []int64{0, 1, 2, 3, -1, -2, -3, 1 << 31, 1<<32 - 1, 1 << 32, -1 << 31, -1 << 32, 1 << 62, math.MaxInt64, math.MaxInt64 - 1, math.MinInt64, math.MinInt64 + 1} {
		numbers = append(numbers, strconv.FormatInt(n, 10))
	}
	r := rand.New(rand.NewSource(70))
	for range 60 {
		numbers = append(numbers, strconv.FormatInt(int64(r.Uint64()&r.Uint64()), 10))
	}
	for _, value := range numbers {
		for _, assertion := range numbers {
			holdRule(t, api.RuleBitAnd, api.SynInteger, value, assertion)
			holdRule(t, api.RuleBitOr, api.SynInteger, value, assertion)
		}
	}
}

// P6.13: names beneath one another, where a comma or a space in a value might deceive.
func TestByRuleOfNames(t *testing.T) {
	names := []string{"", "o=a", "O = A", "cn=b,o=a", `cn=b\,o=a`, `o=a\,cn=b`, "cn=c,cn=b,o=a", "cn=c,o=a", "o=ab", "cn=b+sn=c,o=a", "SN=C+commonName=B,o=A", "cn=b,o=", "o=", "cn=b,o=a\\", "o", ","}
	for _, value := range names {
		for _, assertion := range names {
			holdRule(t, api.RuleSubtree, api.SynName, value, assertion)
			holdRule(t, api.RuleName, api.SynName, value, assertion)
		}
	}
}
