package patch

import (
	"slices"

	"roster/api"
	"roster/text"
)

// placeOf is the place of the attribute of a Canon; -1: there is none.
func placeOf(attrs []api.Attr, canon string) int {
	return slices.IndexFunc(attrs, func(a api.Attr) bool { return a.Canon == canon })
}

// without is the attributes but for those of a Canon.
func without(attrs []api.Attr, canon string) []api.Attr {
	return slices.DeleteFunc(attrs, func(a api.Attr) bool { return a.Canon == canon })
}

// keptOf is the attributes, with those values of a Canon that a set has; none of its attributes that has no value then.
func keptOf(attrs []api.Attr, canon string, kept valueSet) []api.Attr {
	gone := func(value string) bool { return !kept.has(value) }
	for place, a := range attrs {
		if a.Canon == canon {
			attrs[place].Values = slices.DeleteFunc(a.Values, gone)
		}
	}
	return slices.DeleteFunc(attrs, func(a api.Attr) bool { return a.Canon == canon && len(a.Values) == 0 })
}

// laid is the attributes with a value behind those of its Canon; where that has no attribute, one with this description goes behind the others.
func laid(attrs []api.Attr, desc, canon, value string) []api.Attr {
	place := placeOf(attrs, canon)
	if place < 0 {
		return append(attrs, api.Attr{Desc: desc, Canon: canon, Values: []string{value}})
	}
	attrs[place].Values = append(attrs[place].Values, value)
	return attrs
}

// hasValue tells whether one of the attributes has a value.
func hasValue(attrs []api.Attr) bool {
	return slices.ContainsFunc(attrs, func(a api.Attr) bool { return len(a.Values) > 0 })
}

// isReserved tells whether a record of a snapshot can't begin with this description.
func isReserved(desc string) bool {
	folded := text.Fold(desc)
	return folded == "changetype" || folded == "control"
}

// putRight moves the first attribute with which a record can begin to the front; attributes of which none is one are refused.
func putRight(attrs []api.Attr) []api.Attr {
	place := slices.IndexFunc(attrs, func(a api.Attr) bool { return !isReserved(a.Desc) })
	if place < 0 {
		refuse(api.ErrBadChange)
	}
	first := attrs[place]
	return slices.Insert(slices.Delete(attrs, place, place+1), 0, first)
}
