package patch

import (
	"slices"

	"roster/api"
	"roster/attr"
	"roster/dn"
	"roster/text"
)

// ownPair is a pair of a name's own part: the value that its entry must have, and the attribute.
type ownPair struct {
	desc, canon, value string
}

// ownPairs are those of a name's text; none of one that doesn't parse. The type dn is left out: no snapshot can give such an attribute.
func ownPairs(name string) []ownPair {
	parsed, err := dn.Parse(name)
	if err != nil || len(parsed) == 0 {
		return nil
	}
	var pairs []ownPair
	for _, pair := range parsed[0] {
		if text.Fold(pair.Type) != "dn" {
			canon, _, _ := attr.ParseType(pair.Type)
			pairs = append(pairs, ownPair{pair.Type, canon, pair.Value})
		}
	}
	return pairs
}

// cutName cuts a name's text at the first comma that isn't escaped: the own text, and the rest.
func cutName(name string) (string, string) {
	for at := 0; at < len(name); at++ {
		switch name[at] {
		case '\\':
			at++
		case ',':
			return name[:at], name[at+1:]
		}
	}
	return name, ""
}

// joinName lays a name's own text ahead of the rest.
func joinName(own, rest string) string {
	if rest == "" {
		return own
	}
	return own + "," + rest
}

// hasOwn tells whether attributes have all of these pairs.
func hasOwn(attrs []api.Attr, pairs []ownPair) bool {
	return !slices.ContainsFunc(pairs, func(pair ownPair) bool {
		return !setOf(attrs, pair.canon).has(pair.value)
	})
}

// withOwn is attributes to which those of the pairs are added that they don't have.
func withOwn(attrs []api.Attr, pairs []ownPair) []api.Attr {
	for _, pair := range pairs {
		if !setOf(attrs, pair.canon).has(pair.value) {
			attrs = laid(attrs, pair.desc, pair.canon, pair.value)
		}
	}
	return attrs
}

// withoutOwn is attributes of which the old pairs are taken away, but for those that are among the new ones too.
func withoutOwn(attrs []api.Attr, old, fresh []ownPair) []api.Attr {
	for _, pair := range old {
		if isAmong(pair, fresh) {
			continue
		}
		left := setOf(attrs, pair.canon)
		left.take(pair.value)
		attrs = keptOf(attrs, pair.canon, left)
	}
	return attrs
}

// isAmong tells whether one of the pairs has the same canonical type and an equal value.
func isAmong(pair ownPair, pairs []ownPair) bool {
	set := newValueSet(pair.canon)
	for _, other := range pairs {
		if other.canon == pair.canon {
			set.put(other.value)
		}
	}
	return set.has(pair.value)
}
