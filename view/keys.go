package view

import (
	"iter"
	"slices"

	"roster/api"
	"roster/attr"
	"roster/entry"
	"roster/match"
)

// maxKeys is how many sort keys of a list can be used.
const maxKeys = 8

// sortBy is a sort key made ready.
type sortBy struct {
	canon   string     // the description in its canonical form, which covers the same
	order   api.Syntax // by whose order values are compared
	reverse bool
}

// ready makes sort keys ready; with an error the number (from 0) of the first that can't be used.
func ready(keys []api.SortKey) ([]sortBy, api.Errno, int) {
	var sorts []sortBy
	for number, key := range keys {
		one, err := readyBehind(sorts, key)
		if err != api.OK {
			return nil, err, number
		}
		sorts = append(sorts, one)
	}
	return sorts, api.OK, 0
}

// readyForPages makes the sort keys of pages ready.
func readyForPages(keys []api.SortKey, size int) ([]sortBy, api.Errno) {
	sorts, err, _ := ready(keys)
	if err != api.OK {
		return nil, err
	}
	if size < 1 {
		return nil, api.ErrPageSize
	}
	return sorts, api.OK
}

// readyBehind makes a sort key ready that stands behind those.
func readyBehind(ahead []sortBy, key api.SortKey) (sortBy, api.Errno) {
	canon, _, _ := attr.Canonical(key.Desc)
	syntax := attr.Syntax(key.Desc)
	double := slices.ContainsFunc(ahead, func(other sortBy) bool { return other.canon == canon })
	if len(ahead) == maxKeys || syntax == api.SynNone || double {
		return sortBy{}, api.ErrSortKey
	}
	order, ok := orderOf(key.Rule, syntax)
	if !ok {
		return sortBy{}, api.ErrSortRule
	}
	return sortBy{canon, order, key.Reverse}, api.OK
}

// orderOf is the syntax by whose order a rule (or none) sorts values of a syntax; false, if there is no order.
func orderOf(rule string, syntax api.Syntax) (api.Syntax, bool) {
	if rule == "" {
		return syntax, match.Ordered(syntax)
	}
	// What is no rule is found as RuleNone, which has no order.
	r, _ := match.RuleOf(rule)
	order, ok := orderOfRule(r)
	return order, ok && match.Suits(r, syntax)
}

// orderOfRule is an ordering rule's own syntax; false of every other rule.
func orderOfRule(r api.Rule) (api.Syntax, bool) {
	switch r {
	case api.RuleTextOrder:
		return api.SynText, true
	case api.RuleExactOrder:
		return api.SynExact, true
	case api.RuleNumericOrder:
		return api.SynNumeric, true
	case api.RuleIntegerOrder:
		return api.SynInteger, true
	case api.RuleOctetOrder:
		return api.SynOctet, true
	case api.RuleTimeOrder:
		return api.SynTime, true
	}
	return api.SynNone, false
}

// had is what an entry has under a sort key: the least of its normal forms, or nothing.
type had struct {
	something bool
	least     string
}

func (s sortBy) under(e api.Entry) had {
	var h had
	for _, value := range entry.Values(e, s.canon) {
		normal, ok := match.Normal(s.order, value)
		if ok && (!h.something || match.Compare(s.order, normal, h.least) < 0) {
			h = had{true, normal}
		}
	}
	return h
}

func (s sortBy) compare(a, b had) int {
	if s.reverse {
		a, b = b, a
	}
	switch {
	case a.something && b.something:
		return match.Compare(s.order, a.least, b.least)
	case a.something:
		return -1
	case b.something:
		return 1
	}
	return 0
}

// hasUnder is what an entry has under each of the sort keys.
func hasUnder(sorts []sortBy, e api.Entry) []had {
	all := make([]had, len(sorts))
	for i, s := range sorts {
		all[i] = s.under(e)
	}
	return all
}

// comparison makes sort keys into one comparison of what two entries have under them.
func comparison(sorts []sortBy) func(a, b []had) int {
	return func(a, b []had) int {
		for i, s := range sorts {
			if c := s.compare(a[i], b[i]); c != 0 {
				return c
			}
		}
		return 0
	}
}

// row is an entry's number with what it has under each sort key.
type row struct {
	number int
	has    []had
}

// inOrder puts the numbers with which entries come in the order of sort keys; those of entries that are alike stay in theirs.
func inOrder(sorts []sortBy, entries iter.Seq2[int, api.Entry]) []int {
	// An entry is looked at once, however often it is compared.
	var rows []row
	for n, e := range entries {
		rows = append(rows, row{n, hasUnder(sorts, e)})
	}
	compare := comparison(sorts)
	slices.SortStableFunc(rows, func(a, b row) int { return compare(a.has, b.has) })
	numbers := make([]int, len(rows))
	for i, r := range rows {
		numbers[i] = r.number
	}
	return numbers
}
