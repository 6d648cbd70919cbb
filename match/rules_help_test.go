package match

import (
	"math/big"
	"slices"
	"strconv"
	"strings"
	"testing"

	"roster/api"
	"roster/dn"
)

// chapterRules is the chapter's table of matching rules: rule, constant, name, identifier, syntax, what it asks.
const chapterRules = `
| 1 | RuleText | caseIgnoreMatch | 2.5.13.2 | SynText | equality |
| 2 | RuleExact | caseExactMatch | 2.5.13.5 | SynExact | equality |
| 3 | RuleIA5 | caseIgnoreIA5Match | 1.3.6.1.4.1.1466.109.114.2 | SynIA5 | equality |
| 4 | RuleIA5Exact | caseExactIA5Match | 1.3.6.1.4.1.1466.109.114.1 | SynIA5Exact | equality |
| 5 | RuleNumeric | numericStringMatch | 2.5.13.8 | SynNumeric | equality |
| 6 | RulePhone | telephoneNumberMatch | 2.5.13.20 | SynPhone | equality |
| 7 | RuleInteger | integerMatch | 2.5.13.14 | SynInteger | equality |
| 8 | RuleBoolean | booleanMatch | 2.5.13.13 | SynBoolean | equality |
| 9 | RuleOctet | octetStringMatch | 2.5.13.17 | SynOctet | equality |
| 10 | RuleName | distinguishedNameMatch | 2.5.13.1 | SynName | equality |
| 11 | RuleOID | objectIdentifierMatch | 2.5.13.0 | SynOID | equality |
| 12 | RuleTime | generalizedTimeMatch | 2.5.13.27 | SynTime | equality |
| 13 | RuleTextOrder | caseIgnoreOrderingMatch | 2.5.13.3 | SynText | ahead |
| 14 | RuleExactOrder | caseExactOrderingMatch | 2.5.13.6 | SynExact | ahead |
| 15 | RuleNumericOrder | numericStringOrderingMatch | 2.5.13.9 | SynNumeric | ahead |
| 16 | RuleIntegerOrder | integerOrderingMatch | 2.5.13.15 | SynInteger | ahead |
| 17 | RuleOctetOrder | octetStringOrderingMatch | 2.5.13.18 | SynOctet | ahead |
| 18 | RuleTimeOrder | generalizedTimeOrderingMatch | 2.5.13.28 | SynTime | ahead |
| 19 | RuleBitAnd | integerBitAndMatch | 1.2.840.113556.1.4.803 | SynInteger | all bits |
| 20 | RuleBitOr | integerBitOrMatch | 1.2.840.113556.1.4.804 | SynInteger | one bit |
| 21 | RuleSubtree | nameSubtreeMatch | 1.3.6.1.4.1.32473.1.1 | SynName | beneath |
| 22 | RuleList | caseIgnoreListMatch | 2.5.13.11 | SynList | equality |
| 23 | RuleBits | bitStringMatch | 2.5.13.16 | SynBits | equality |
| 24 | RuleTextPieces | caseIgnoreSubstringsMatch | 2.5.13.4 | SynText | pieces |
| 25 | RuleExactPieces | caseExactSubstringsMatch | 2.5.13.7 | SynExact | pieces |
| 26 | RuleIA5Pieces | caseIgnoreIA5SubstringsMatch | 1.3.6.1.4.1.1466.109.114.3 | SynIA5 | pieces |
| 27 | RuleNumericPieces | numericStringSubstringsMatch | 2.5.13.10 | SynNumeric | pieces |
| 28 | RulePhonePieces | telephoneNumberSubstringsMatch | 2.5.13.21 | SynPhone | pieces |
| 29 | RuleOctetPieces | octetStringSubstringsMatch | 2.5.13.19 | SynOctet | pieces |
| 30 | RuleWord | wordMatch | 2.5.13.32 | SynText | a word |
`

// syntaxNames stand at their numbers.
var syntaxNames = []string{"SynNone", "SynText", "SynExact", "SynIA5", "SynIA5Exact", "SynNumeric", "SynPhone", "SynInteger", "SynBoolean", "SynOctet", "SynName", "SynOID", "SynTime", "SynList", "SynBits"}

// slowRule is a row of the chapter's table.
type slowRule struct {
	name, id string
	own      api.Syntax
	asks     string
}

// slowRules stand at their numbers; that of RuleNone is empty.
var slowRules = readRules(chapterRules)

func readRules(table string) []slowRule {
	out := []slowRule{{}}
	for row := range strings.Lines(strings.TrimSpace(table)) {
		cells := strings.Split(strings.Trim(row, "| \n"), " | ")
		if cells[0] != strconv.Itoa(len(out)) {
			panic("a row is missing: " + row)
		}
		own := slices.Index(syntaxNames, cells[4])
		out = append(out, slowRule{cells[2], cells[3], api.Syntax(own), cells[5]})
	}
	return out
}

// slowAt is a rule's row; an empty one of a number that is none.
func slowAt(r api.Rule) slowRule {
	if r < 0 || int(r) >= len(slowRules) {
		return slowRule{}
	}
	return slowRules[r]
}

// slowSuits is P6.11.
func slowSuits(r api.Rule, s api.Syntax) bool {
	own := slowAt(r).own
	for _, family := range [][]api.Syntax{{1, 2}, {3, 4}} {
		if slices.Contains(family, s) {
			return slices.Contains(family, own)
		}
	}
	return own != api.SynNone && own == s
}

// patternForm is the text of a pattern, with its pieces as groups: the first, those between with a * behind each, the last.
var patternForm = form(`((?:[^*\\]|\\2[Aa]|\\5[Cc])*)\*((?:(?:[^*\\]|\\2[Aa]|\\5[Cc])+\*)*)((?:[^*\\]|\\2[Aa]|\\5[Cc])*)`)

func slowPattern(s string) (api.Pattern, bool) {
	groups := patternForm.FindStringSubmatch(s)
	if groups == nil || s == "*" {
		return api.Pattern{}, false
	}
	meant := strings.NewReplacer(`\2A`, "*", `\2a`, "*", `\5C`, `\`, `\5c`, `\`).Replace
	p := api.Pattern{Initial: meant(groups[1]), Final: meant(groups[3])}
	if groups[2] != "" {
		for _, piece := range strings.Split(strings.TrimSuffix(groups[2], "*"), "*") {
			p.Any = append(p.Any, meant(piece))
		}
	}
	return p, true
}

// slowWord is a number from -2^63 to 2^63 - 1.
func slowWord(s string) (*big.Int, bool) {
	number, ok := slowNumber(s)
	return number, ok && number.IsInt64()
}

// slowAsserts is P6.12.
func slowAsserts(r api.Rule, assertion string) bool {
	row := slowAt(r)
	normal, ok := slowNormal(row.own, assertion)
	switch row.asks {
	case "equality", "ahead", "beneath":
		return ok
	case "all bits", "one bit":
		_, ok = slowWord(assertion)
		return ok
	case "pieces":
		p, ok := slowPattern(assertion)
		if !ok {
			return false
		}
		_, ok = slowParts(row.own, p)
		return ok
	case "a word":
		return ok && normal != "" && !strings.Contains(normal, " ")
	}
	return false
}

// slowByRule is P6.13.
func slowByRule(r api.Rule, s api.Syntax, value, assertion string) api.Truth {
	if !slowSuits(r, s) || !slowAsserts(r, assertion) {
		return api.Undefined
	}
	row := slowAt(r)
	normal, ok := slowNormal(row.own, value)
	if !ok {
		return api.False
	}
	want, _ := slowNormal(row.own, assertion)
	switch row.asks {
	case "equality":
		return truth(normal == want)
	case "ahead":
		return truth(slowCompare(row.own, normal, want) == -1)
	case "beneath":
		return truth(slowBeneath(value, assertion))
	case "pieces":
		p, _ := slowPattern(assertion)
		return slowContains(row.own, value, p)
	case "a word":
		return truth(slices.Contains(strings.Split(normal, " "), want))
	}
	return slowBits(row.asks, value, assertion)
}

// slowBits asks bit by bit: those of a big number are of two's complement.
func slowBits(asks, value, assertion string) api.Truth {
	number, ok := slowWord(value)
	if !ok {
		return api.False
	}
	want, _ := slowWord(assertion)
	for bit := range 64 {
		set := number.Bit(bit) == 1
		if want.Bit(bit) == 1 && set == (asks == "one bit") {
			return truth(asks == "one bit")
		}
	}
	return truth(asks == "all bits")
}

func slowBeneath(value, assertion string) bool {
	d, _ := dn.Parse(value)
	base, _ := dn.KeyOf(assertion)
	for up := range dn.Up(d) {
		if key, _ := dn.Key(up); slices.Equal(key, base) {
			return true
		}
	}
	return false
}

// holdRule holds what a rule answers against the chapter told a second time.
func holdRule(t *testing.T, r api.Rule, s api.Syntax, value, assertion string) {
	t.Helper()
	if got, want := Suits(r, s), slowSuits(r, s); got != want {
		t.Fatalf("Suits(%d, %d) = %v; want %v", r, s, got, want)
	}
	if got, want := Asserts(r, assertion), slowAsserts(r, assertion); got != want {
		t.Fatalf("Asserts(%d, %.200q) = %v; want %v", r, assertion, got, want)
	}
	if got, want := ByRule(r, s, value, assertion), slowByRule(r, s, value, assertion); got != want {
		t.Fatalf("ByRule(%d, %d, %.200q, %.200q) = %d; want %d", r, s, value, assertion, got, want)
	}
}

// allRules are the rules and numbers that are none.
func allRules() []api.Rule {
	out := []api.Rule{-1 << 63, -1 << 32, -31, -2, -1, 31, 32, 1<<8 + 1, 1<<16 + 1, 1<<32 + 1, 1<<63 - 1}
	for r := range api.Rule(31) {
		out = append(out, r)
	}
	return out
}
