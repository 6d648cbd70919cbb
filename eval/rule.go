package eval

import (
	"slices"

	"roster/api"
	"roster/attr"
	"roster/dn"
	"roster/match"
)

// byRule is an Extensible item. The empty text is a description or a rule that isn't there.
func byRule(desc, rule, assertion string, names bool) meaning {
	r, ok := ruleOf(desc, rule)
	if !ok || !match.Asserts(r, assertion) {
		return undefined
	}
	counts := counting(desc, r)
	fulfils := func(a api.Attr) bool {
		s, ok := counts(a.Canon)
		return ok && slices.ContainsFunc(a.Values, func(value string) bool {
			return match.ByRule(r, s, value, assertion) == api.True
		})
	}
	return func(e api.Entry) api.Truth {
		return truth(slices.ContainsFunc(e.Attrs, fulfils) || names && slices.ContainsFunc(pairs(e.Name), fulfils))
	}
}

// ruleOf is the rule that is asked by; false, if there is none, or it isn't one for the description. SynNone, which a description has that isn't good, has no rule and suits none.
func ruleOf(desc, rule string) (api.Rule, bool) {
	s := attr.Syntax(desc)
	if rule == "" {
		r := match.RuleFor(s)
		return r, r != api.RuleNone
	}
	r, known := match.RuleOf(rule)
	return r, known && (desc == "" || match.Suits(r, s))
}

// counting tells of which attributes, and of which types in a name, the values count, and with which syntax.
func counting(desc string, r api.Rule) func(canon string) (api.Syntax, bool) {
	if desc == "" {
		return func(canon string) (api.Syntax, bool) {
			s := attr.Syntax(canon)
			return s, match.Suits(r, s)
		}
	}
	s := attr.Syntax(desc)
	return func(canon string) (api.Syntax, bool) {
		return s, attr.Covers(desc, canon)
	}
}

// pairs are those of all parts of a name, each as an attribute with one value; none, if the name doesn't parse.
func pairs(name string) []api.Attr {
	parts, err := dn.Parse(name)
	if err != nil {
		return nil
	}
	var attrs []api.Attr
	for _, pair := range slices.Concat(parts...) {
		attrs = append(attrs, api.Attr{Canon: pair.Type, Values: []string{pair.Value}})
	}
	return attrs
}
