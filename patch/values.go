package patch

import (
	"slices"

	"roster/api"
	"roster/attr"
	"roster/match"
)

// mark is the same of two values of one Canon just if they are equal.
type mark struct {
	normal bool // the text is a normal form; else it is the value itself, which has none
	text   string
}

// valueSet is a set of values of one Canon: equal ones are in it once.
type valueSet struct {
	syntax api.Syntax
	marks  map[mark]struct{}
}

func newValueSet(canon string) valueSet {
	return valueSet{attr.Syntax(canon), map[mark]struct{}{}}
}

func (s valueSet) markOf(value string) mark {
	if normal, ok := match.Normal(s.syntax, value); ok {
		return mark{true, normal}
	}
	return mark{false, value}
}

func (s valueSet) has(value string) bool {
	_, there := s.marks[s.markOf(value)]
	return there
}

// put tells whether the value is new to the set.
func (s valueSet) put(value string) bool {
	before := len(s.marks)
	s.marks[s.markOf(value)] = struct{}{}
	return len(s.marks) > before
}

// take tells whether the value was in the set, which now is without it.
func (s valueSet) take(value string) bool {
	before := len(s.marks)
	delete(s.marks, s.markOf(value))
	return len(s.marks) < before
}

// same tells whether two sets of one Canon have the same values.
func (s valueSet) same(other valueSet) bool {
	for m := range s.marks {
		if _, there := other.marks[m]; !there {
			return false
		}
	}
	return len(s.marks) == len(other.marks)
}

// setOf is the values of all attributes with a Canon.
func setOf(attrs []api.Attr, canon string) valueSet {
	set := newValueSet(canon)
	for _, a := range attrs {
		if a.Canon == canon {
			for _, value := range a.Values {
				set.put(value)
			}
		}
	}
	return set
}

// setsOf is the values of all attributes, by their Canons; a Canon without a value is not there.
func setsOf(attrs []api.Attr) map[string]valueSet {
	sets := map[string]valueSet{}
	for _, a := range attrs {
		if len(a.Values) == 0 {
			continue
		}
		if _, there := sets[a.Canon]; !there {
			sets[a.Canon] = newValueSet(a.Canon)
		}
		for _, value := range a.Values {
			sets[a.Canon].put(value)
		}
	}
	return sets
}

// sameSets tells whether each Canon has the same values in both, wherever they stand.
func sameSets(a, b map[string]valueSet) bool {
	for canon, set := range a {
		if other, there := b[canon]; !there || !set.same(other) {
			return false
		}
	}
	return len(a) == len(b)
}

// withValues is attributes to which values of a Canon are added; one that is there by then is refused.
func withValues(attrs []api.Attr, desc, canon string, values []string) []api.Attr {
	there := setOf(attrs, canon)
	for _, value := range values {
		if !there.put(value) {
			refuse(api.ErrHasValue)
		}
		attrs = laid(attrs, desc, canon, value)
	}
	return attrs
}

// withoutValues is attributes of which values of a Canon are taken away; one that isn't there by then is refused.
func withoutValues(attrs []api.Attr, canon string, values []string) []api.Attr {
	left := setOf(attrs, canon)
	for _, value := range values {
		if !left.take(value) {
			refuse(api.ErrNoValue)
		}
	}
	return keptOf(attrs, canon, left)
}

// replaced is attributes in which a Canon has just these values, at the place of its first attribute; equal values are refused.
func replaced(attrs []api.Attr, desc, canon string, values []string) []api.Attr {
	fresh := newValueSet(canon)
	for _, value := range values {
		if !fresh.put(value) {
			refuse(api.ErrHasValue)
		}
	}
	if len(values) == 0 {
		return without(attrs, canon)
	}
	place := placeOf(attrs, canon)
	if place < 0 {
		return append(attrs, api.Attr{Desc: desc, Canon: canon, Values: slices.Clone(values)})
	}
	attrs[place].Values = slices.Clone(values)
	return append(attrs[:place+1], without(attrs[place+1:], canon)...)
}
