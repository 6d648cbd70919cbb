package eval

import (
	"roster/api"
	"roster/attr"
	"roster/entry"
	"roster/match"
)

// item works out ahead what hangs on the item alone. What it makes holds on to the node's texts, but to none of its lists: the caller may write into those.
func item(n api.FilterNode) meaning {
	switch n.Op {
	case api.Present:
		return present(n.Desc)
	case api.Equality, api.Approx:
		return equality(n.Desc, n.Value)
	case api.AtLeast:
		return compared(n.Desc, n.Value, func(order int) bool { return order >= 0 })
	case api.AtMost:
		return compared(n.Desc, n.Value, func(order int) bool { return order <= 0 })
	case api.Substrings:
		return holding(n.Desc, n.Parts)
	case api.Extensible:
		return byRule(n.Desc, n.Rule, n.Value, n.DNAttrs)
	}
	return undefined
}

func present(desc string) meaning {
	if attr.Syntax(desc) == api.SynNone {
		return undefined
	}
	return func(e api.Entry) api.Truth {
		return truth(entry.Has(e, desc))
	}
}

// In those that follow, a description that isn't good has SynNone: no value is of it, it has no order and no pieces.

func equality(desc, value string) meaning {
	s := attr.Syntax(desc)
	want, ok := match.Normal(s, value)
	if !ok {
		return undefined
	}
	return ofOne(desc, s, func(normal string) bool { return normal == want })
}

func compared(desc, value string, fulfils func(order int) bool) meaning {
	s := attr.Syntax(desc)
	other, ok := match.Normal(s, value)
	if !ok || !match.Ordered(s) {
		return undefined
	}
	return ofOne(desc, s, func(normal string) bool { return fulfils(match.Compare(s, normal, other)) })
}

func holding(desc string, pieces api.Pattern) meaning {
	s := attr.Syntax(desc)
	normalPieces, ok := match.Parts(s, pieces)
	if !ok {
		return undefined
	}
	return ofOne(desc, s, func(normal string) bool { return match.Fits(normal, normalPieces) })
}

// ofOne asks whether the normal form of one covered value fulfils what is asked; a value without one fulfils nothing.
func ofOne(desc string, s api.Syntax, asked func(normal string) bool) meaning {
	return func(e api.Entry) api.Truth {
		for _, value := range entry.Values(e, desc) {
			if normal, ok := match.Normal(s, value); ok && asked(normal) {
				return api.True
			}
		}
		return api.False
	}
}
