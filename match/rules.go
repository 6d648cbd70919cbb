package match

import (
	"slices"
	"strconv"
	"strings"

	"roster/api"
	"roster/dn"
)

// rule is a row of the table of matching rules.
type rule struct {
	name string
	oid  string
	own  api.Syntax
	// asks reads an assertion of the rule's own syntax; false, if the rule doesn't take it.
	asks func(own syntax, assertion string) (test, bool)
}

// test tells whether a value fulfils what it was made of; one that is not of the syntax fulfils nothing.
type test func(value string) bool

// rules is the table, each row at its rule's number; that of RuleNone is empty.
func rules() []rule {
	return []rule{
		api.RuleText:          {"caseIgnoreMatch", "2.5.13.2", api.SynText, equality},
		api.RuleExact:         {"caseExactMatch", "2.5.13.5", api.SynExact, equality},
		api.RuleIA5:           {"caseIgnoreIA5Match", "1.3.6.1.4.1.1466.109.114.2", api.SynIA5, equality},
		api.RuleIA5Exact:      {"caseExactIA5Match", "1.3.6.1.4.1.1466.109.114.1", api.SynIA5Exact, equality},
		api.RuleNumeric:       {"numericStringMatch", "2.5.13.8", api.SynNumeric, equality},
		api.RulePhone:         {"telephoneNumberMatch", "2.5.13.20", api.SynPhone, equality},
		api.RuleInteger:       {"integerMatch", "2.5.13.14", api.SynInteger, equality},
		api.RuleBoolean:       {"booleanMatch", "2.5.13.13", api.SynBoolean, equality},
		api.RuleOctet:         {"octetStringMatch", "2.5.13.17", api.SynOctet, equality},
		api.RuleName:          {"distinguishedNameMatch", "2.5.13.1", api.SynName, equality},
		api.RuleOID:           {"objectIdentifierMatch", "2.5.13.0", api.SynOID, equality},
		api.RuleTime:          {"generalizedTimeMatch", "2.5.13.27", api.SynTime, equality},
		api.RuleTextOrder:     {"caseIgnoreOrderingMatch", "2.5.13.3", api.SynText, ahead},
		api.RuleExactOrder:    {"caseExactOrderingMatch", "2.5.13.6", api.SynExact, ahead},
		api.RuleNumericOrder:  {"numericStringOrderingMatch", "2.5.13.9", api.SynNumeric, ahead},
		api.RuleIntegerOrder:  {"integerOrderingMatch", "2.5.13.15", api.SynInteger, ahead},
		api.RuleOctetOrder:    {"octetStringOrderingMatch", "2.5.13.18", api.SynOctet, ahead},
		api.RuleTimeOrder:     {"generalizedTimeOrderingMatch", "2.5.13.28", api.SynTime, ahead},
		api.RuleBitAnd:        {"integerBitAndMatch", "1.2.840.113556.1.4.803", api.SynInteger, allBits},
		api.RuleBitOr:         {"integerBitOrMatch", "1.2.840.113556.1.4.804", api.SynInteger, oneBit},
		api.RuleSubtree:       {"nameSubtreeMatch", "1.3.6.1.4.1.32473.1.1", api.SynName, beneath},
		api.RuleList:          {"caseIgnoreListMatch", "2.5.13.11", api.SynList, equality},
		api.RuleBits:          {"bitStringMatch", "2.5.13.16", api.SynBits, equality},
		api.RuleTextPieces:    {"caseIgnoreSubstringsMatch", "2.5.13.4", api.SynText, pieces},
		api.RuleExactPieces:   {"caseExactSubstringsMatch", "2.5.13.7", api.SynExact, pieces},
		api.RuleIA5Pieces:     {"caseIgnoreIA5SubstringsMatch", "1.3.6.1.4.1.1466.109.114.3", api.SynIA5, pieces},
		api.RuleNumericPieces: {"numericStringSubstringsMatch", "2.5.13.10", api.SynNumeric, pieces},
		api.RulePhonePieces:   {"telephoneNumberSubstringsMatch", "2.5.13.21", api.SynPhone, pieces},
		api.RuleOctetPieces:   {"octetStringSubstringsMatch", "2.5.13.19", api.SynOctet, pieces},
		api.RuleWord:          {"wordMatch", "2.5.13.32", api.SynText, word},
	}
}

// ruleAt is the row of a rule; false, if the number is none's.
func ruleAt(r api.Rule) (rule, bool) {
	rows := rules()
	if r <= api.RuleNone || r >= api.Rule(len(rows)) {
		return rule{}, false
	}
	return rows[r], true
}

// suits tells whether values of the syntax may be asked by the rule.
func (r rule) suits(s api.Syntax) bool {
	return family(r.own) == family(s)
}

// verdict is what a value is told of a test; Undefined, if there is none.
func verdict(ask test, ok bool, value string) api.Truth {
	switch {
	case !ok:
		return api.Undefined
	case ask(value):
		return api.True
	}
	return api.False
}

// ofNormal is a test of a value's normal form.
func ofNormal(own syntax, ask func(normal string) bool) test {
	return func(value string) bool {
		normal, ok := own.normal(value)
		return ok && ask(normal)
	}
}

func equality(own syntax, assertion string) (test, bool) {
	want, ok := own.normal(assertion)
	return ofNormal(own, func(normal string) bool { return normal == want }), ok
}

// compared asks how a value stands to the assertion in the order of the syntax, if it has one.
func compared(own syntax, assertion string, fulfils func(order int) bool) (test, bool) {
	other, ok := own.normal(assertion)
	ask := func(normal string) bool { return fulfils(own.compare(normal, other)) }
	return ofNormal(own, ask), ok && own.ordered()
}

func ahead(own syntax, assertion string) (test, bool) {
	return compared(own, assertion, func(order int) bool { return order < 0 })
}

func allBits(own syntax, assertion string) (test, bool) {
	return ofWords(own, assertion, func(value, want int64) bool { return value&want == want })
}

func oneBit(own syntax, assertion string) (test, bool) {
	return ofWords(own, assertion, func(value, want int64) bool { return value&want != 0 })
}

// ofWords asks for numbers of 64 bits on both sides.
func ofWords(own syntax, assertion string, fulfils func(value, want int64) bool) (test, bool) {
	want, ok := wordOf(own, assertion)
	return func(value string) bool {
		number, fits := wordOf(own, value)
		return fits && fulfils(number, want)
	}, ok
}

func wordOf(own syntax, value string) (int64, bool) {
	normal, ok := own.normal(value)
	if !ok {
		return 0, false
	}
	number, err := strconv.ParseInt(normal, 10, 64)
	return number, err == nil
}

// beneath asks for the keys themselves: a normal form doesn't tell them apart part by part.
func beneath(own syntax, assertion string) (test, bool) {
	base, err := dn.KeyOf(assertion)
	return func(value string) bool {
		key, err := dn.KeyOf(value)
		return err == nil && dn.Within(base, key)
	}, err == nil
}

func pieces(own syntax, assertion string) (test, bool) {
	p, ok := readPattern(assertion)
	if !ok {
		return nil, false
	}
	return holding(own, p)
}

// holding asks for the pieces of a pattern.
func holding(own syntax, p api.Pattern) (test, bool) {
	normalP, ok := normalPattern(own, p)
	return ofNormal(own, func(normal string) bool { return Fits(normal, normalP) }), ok
}

func word(own syntax, assertion string) (test, bool) {
	want, ok := own.normal(assertion)
	ask := func(normal string) bool { return slices.Contains(strings.Split(normal, " "), want) }
	return ofNormal(own, ask), ok && want != "" && !strings.Contains(want, " ")
}
