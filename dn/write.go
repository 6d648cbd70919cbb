package dn

import (
	"slices"
	"strings"

	"roster/api"
	"roster/attr"
	"roster/text"
)

// canonicalTypes are those of the part's pairs, in their order; or the refusal of a part of this number that no name has.
func canonicalTypes(part api.RDN, number int) ([]string, error) {
	switch {
	case number >= api.MaxParts:
		return nil, refusal{ErrWide, number}
	case len(part) == 0:
		return nil, refusal{ErrMade, number}
	case len(part) > api.MaxPairs:
		return nil, refusal{ErrWide, number}
	}
	var types []string
	for _, pair := range part {
		canonical, fault, _ := attr.ParseType(pair.Type)
		if fault != api.OK {
			return nil, refusal{ErrMade, number}
		}
		if slices.Contains(types, canonical) {
			return nil, refusal{ErrTwice, number}
		}
		if fault, _ := text.Check(pair.Value); fault != api.OK {
			return nil, refusal{ErrUTF8, number}
		}
		types = append(types, canonical)
	}
	return types, nil
}

// keyText is the key's text of the part of this number.
func keyText(part api.RDN, number int) (string, error) {
	types, err := canonicalTypes(part, number)
	if err != nil {
		return "", err
	}
	pairs := make(api.RDN, len(part))
	for i, pair := range part {
		pairs[i] = api.AVA{Type: types[i], Value: text.Normal(pair.Value)}
	}
	slices.SortFunc(pairs, func(a, b api.AVA) int { return strings.Compare(a.Type, b.Type) })
	var out strings.Builder
	writePairs(&out, pairs)
	return out.String(), nil
}

func writePairs(out *strings.Builder, pairs api.RDN) {
	for i, pair := range pairs {
		if i > 0 {
			out.WriteByte('+')
		}
		out.WriteString(pair.Type)
		out.WriteByte('=')
		writeEscape(out, pair.Value)
	}
}

// writeEscape writes the escape of a value.
func writeEscape(out *strings.Builder, value string) {
	// Bytes, not runes: a byte above 127 is none of those that are escaped.
	for place := range len(value) {
		switch b := value[place]; {
		case b == 0:
			out.WriteString(`\00`)
		case mustEscape(value, place):
			out.WriteByte('\\')
			fallthrough
		default:
			out.WriteByte(b)
		}
	}
}

// mustEscape tells whether the byte at the place, if it stood alone, would be read as something else than itself.
func mustEscape(value string, place int) bool {
	switch value[place] {
	case '\\', '"', '+', ',', ';', '<', '>':
		return true
	case '#':
		return place == 0
	case ' ':
		return place == 0 || place == len(value)-1
	}
	return false
}
