package search

import (
	"iter"
	"slices"

	"roster/api"
	"roster/dit"
	"roster/entry"
	"roster/eval"
)

// entriesOf are the entries of a tree in the order of their numbers.
func entriesOf(t *dit.Tree) []api.Entry {
	if t == nil {
		return nil
	}
	entries := make([]api.Entry, t.Len())
	for n := range entries {
		entries[n] = t.Entry(n)
	}
	return entries
}

// inBoth tells, rising, which of the candidates are in scope.
func inBoth(candidates []int, scope iter.Seq[int]) []int {
	const isCandidate, isInScope = 1, 2
	marks := make(map[int]int, len(candidates))
	for _, n := range candidates {
		marks[n] = isCandidate
	}
	for n := range scope {
		if marks[n] == isCandidate {
			marks[n] = isInScope
		}
	}
	var numbers []int
	for n, mark := range marks {
		if mark == isInScope {
			numbers = append(numbers, n)
		}
	}
	slices.Sort(numbers)
	return numbers
}

// fulfilling gives those of the numbers on whose entries a filter is TRUE. An entry is looked at when its turn comes: who stops early has none looked at in vain.
func (s *Store) fulfilling(numbers iter.Seq[int], f api.Filter) iter.Seq[int] {
	fulfils := question(f)
	return func(yield func(int) bool) {
		for n := range numbers {
			if fulfils(s.tree.Entry(n)) && !yield(n) {
				return
			}
		}
	}
}

// question makes a filter into what is asked of each entry. It holds on to none of the filter's lists: the caller may write into those.
func question(f api.Filter) func(e api.Entry) bool {
	test, err := eval.Compile(f)
	if err != api.OK {
		return func(api.Entry) bool { return false }
	}
	return func(e api.Entry) bool { return test.On(e) == api.True }
}

// answer tells the entries that are meant, as many as the search allows.
func (s *Store) answer(q api.Search, meant func(base int, q api.Search) iter.Seq[int]) ([]api.Found, api.Result) {
	base, result := s.Base(q.Base)
	if result.Code != api.Success {
		return nil, result
	}
	var found []api.Found
	for n := range meant(base, q) {
		if q.SizeLimit > 0 && len(found) == q.SizeLimit {
			return found, api.Result{Code: api.SizeLimitExceeded}
		}
		e := s.tree.Entry(n)
		found = append(found, api.Found{Name: e.Name, Attributes: entry.Select(e, q.Attributes, q.TypesOnly)})
	}
	return found, api.Result{Code: api.Success}
}
