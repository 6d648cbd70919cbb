package view

import (
	"iter"
	"slices"
	"strconv"

	"roster/api"
	"roster/entry"
)

// meant gives the entries that a search means with their numbers, rising.
func (v *View) meant(q api.Search) iter.Seq2[int, api.Entry] {
	return func(yield func(int, api.Entry) bool) {
		for n := range v.store.Matches(q) {
			if !yield(n, v.store.Tree().Entry(n)) {
				return
			}
		}
	}
}

// sorted tells the numbers of the entries that a search with a base finds, in the order of sort keys, as many as it allows; without a base none.
func (v *View) sorted(q api.Search, sorts []sortBy) ([]int, api.Result) {
	numbers := inOrder(sorts, v.meant(q))
	if q.SizeLimit > 0 && q.SizeLimit < len(numbers) {
		return numbers[:q.SizeLimit], api.Result{Code: api.SizeLimitExceeded}
	}
	return numbers, api.Result{Code: api.Success}
}

// told is what a search is told of the entries with these numbers.
func (v *View) told(numbers []int, wanted []string, typesOnly bool) []api.Found {
	found := make([]api.Found, len(numbers))
	for i, n := range numbers {
		e := v.store.Tree().Entry(n)
		found[i] = api.Found{Name: e.Name, Attributes: entry.Select(e, wanted, typesOnly)}
	}
	return found
}

// cookieOf is the cookie of a page that ends with this number.
func cookieOf(number int) string { return strconv.Itoa(number) }

// behind is those of the numbers that the next page begins with; false, if the cookie is none that goes on.
func behind(numbers []int, cookie string) ([]int, bool) {
	if cookie == "" {
		return numbers, true
	}
	// What is no number is read as one that is not written so.
	n, _ := strconv.Atoi(cookie)
	place := slices.Index(numbers, n)
	if place < 0 || place == len(numbers)-1 || cookieOf(n) != cookie {
		return nil, false
	}
	return numbers[place+1:], true
}
