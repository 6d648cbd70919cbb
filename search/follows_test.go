package search

import (
	"slices"
	"testing"

	"roster/api"
	"roster/eval"
)

// P16.6: without a limit those in scope on which the filter is TRUE, none more, none less; with a limit n the first n of those.
func TestNoneMoreNoneLess(t *testing.T) {
	m := newMaker(168)
	for range 60 {
		paths := m.paths(m.Intn(20))
		tree := treeOf(t, m.entries(t, paths))
		s := New(tree)
		for range 15 {
			q := m.search(paths)
			q.SizeLimit = 0
			base, result := s.Base(q.Base)
			if result != (api.Result{}) {
				continue
			}
			var want []string
			for n := range tree.Scope(base, q.Scope) {
				if e := tree.Entry(n); eval.Value(q.Filter, e) == api.True {
					want = append(want, e.Name)
				}
			}
			holdNames(t, s, q, want...)
			all, _ := s.Search(q)
			for limit := 1; limit <= len(want)+1; limit++ {
				q.SizeLimit = limit
				code := api.Success
				if limit < len(want) {
					code = api.SizeLimitExceeded
				}
				holdFound(t, s, q, all[:min(limit, len(all))], api.Result{Code: code})
			}
		}
	}
}

// P16.6: a filter and its Not find none in common; where it is Undefined on none, they find all between them.
func TestFilterAndNot(t *testing.T) {
	m := newMaker(169)
	whole := 0
	for range 60 {
		paths := m.paths(m.Intn(20))
		tree := treeOf(t, m.entries(t, paths))
		s := New(tree)
		for range 15 {
			q := api.Search{Base: paths[0].spelt(m.Rand), Scope: api.WholeSubtree, Filter: m.filter(1 + m.Intn(4))}
			yes := slices.Collect(s.Matches(q))
			q.Filter = under(api.Not, q.Filter)
			no := slices.Collect(s.Matches(q))
			undefined := 0
			for n := range tree.Len() {
				if slices.Contains(yes, n) && slices.Contains(no, n) {
					t.Fatalf("%s and what it turns about share %d", toldFilter(q.Filter), n)
				}
				if eval.Value(q.Filter, tree.Entry(n)) == api.Undefined {
					undefined++
				}
			}
			if len(yes)+len(no)+undefined != tree.Len() {
				t.Fatalf("%s: %d, what it turns about %d, undefined on %d of %d", toldFilter(q.Filter), no, yes, undefined, tree.Len())
			}
			if undefined == 0 {
				whole++
			}
		}
	}
	if whole == 0 {
		t.Error("each filter was Undefined on some entry")
	}
}

// P16.6: a subtree is the base, if it is meant, and its children's subtrees, child by child.
func TestSubtreeByChildren(t *testing.T) {
	m := newMaker(170)
	for range 60 {
		paths := m.paths(m.Intn(25))
		tree := treeOf(t, m.entries(t, paths))
		s := New(tree)
		for range 5 {
			f := m.filter(1 + m.Intn(4))
			of := func(n int, scope api.Scope) []int {
				return slices.Collect(s.Matches(api.Search{Base: tree.Entry(n).Name, Scope: scope, Filter: f}))
			}
			for n := range tree.Len() {
				parts, level := of(n, api.BaseObject), []int(nil)
				for _, child := range tree.Children(n) {
					parts = append(parts, of(child, api.WholeSubtree)...)
					level = append(level, of(child, api.BaseObject)...)
				}
				if whole := of(n, api.WholeSubtree); !slices.Equal(whole, parts) {
					t.Fatalf("%s: beneath %d there are %d, child by child %d", toldFilter(f), n, whole, parts)
				}
				if got := of(n, api.SingleLevel); !slices.Equal(got, level) {
					t.Fatalf("%s: the children of %d are %d, child by child %d", toldFilter(f), n, got, level)
				}
			}
		}
	}
}
