package dit

import (
	"iter"
	"slices"
	"testing"

	"roster/api"
)

// P9.6: the chapter's examples.
func TestScopeAndUp(t *testing.T) {
	tree := built(t, written("o o/b o/a o/b/x"))
	for _, c := range []struct {
		n     int
		scope api.Scope
		want  []int
	}{
		{0, api.SingleLevel, []int{1, 2}},
		{2, api.WholeSubtree, []int{2, 3}},
		{3, api.BaseObject, []int{3}},
		{0, 3, nil},
		{9, api.WholeSubtree, nil},
		{0, api.BaseObject, []int{0}},
		{0, api.WholeSubtree, []int{0, 1, 2, 3}},
		{1, api.SingleLevel, nil},
		{1, api.WholeSubtree, []int{1}},
		{2, api.SingleLevel, []int{3}},
		{0, -1, nil},
		{-1, api.BaseObject, nil},
		{-1, api.SingleLevel, nil},
		{-1, api.WholeSubtree, nil},
		{4, api.BaseObject, nil},
		{4, api.SingleLevel, nil},
	} {
		holdGiven(t, tree.Scope(c.n, c.scope), c.want)
	}
	holdGiven(t, tree.Up(3), []int{3, 2, 0})
	holdGiven(t, tree.Up(1), []int{1, 0})
	holdGiven(t, tree.Up(0), []int{0})
	holdGiven(t, tree.Up(4), nil)
	holdGiven(t, tree.Up(-1), nil)
}

// P9.6: the children alone, not what stands beneath them.
func TestSingleLevel(t *testing.T) {
	tree := built(t, written("/ a a/b a/b/c b b/a b/b c"))
	holdGiven(t, tree.Scope(0, api.SingleLevel), []int{1, 4, 7})
	holdGiven(t, tree.Scope(1, api.SingleLevel), []int{2})
	holdGiven(t, tree.Scope(4, api.SingleLevel), []int{5, 6})
	holdGiven(t, tree.Scope(7, api.SingleLevel), nil)
}

// iterators are some that give several numbers, with what they give.
func iterators(t *testing.T) (*Tree, map[string]iter.Seq[int], map[string][]int) {
	tree := built(t, written("o o/a o/b o/c o/a/x o/a/x/y"))
	return tree, map[string]iter.Seq[int]{
		"Up":           tree.Up(3),
		"BaseObject":   tree.Scope(1, api.BaseObject),
		"SingleLevel":  tree.Scope(0, api.SingleLevel),
		"WholeSubtree": tree.Scope(1, api.WholeSubtree),
		"none":         tree.Scope(0, 3),
	}, map[string][]int{
		"Up":           {3, 2, 1, 0},
		"BaseObject":   {1},
		"SingleLevel":  {1, 4, 5},
		"WholeSubtree": {1, 2, 3},
		"none":         nil,
	}
}

// P9.6: stopped early, no more is given; and the next time it begins anew.
func TestStoppedEarly(t *testing.T) {
	_, all, given := iterators(t)
	for name, seq := range all {
		want := given[name]
		for stop := 1; stop <= len(want); stop++ {
			var got []int
			seq(func(n int) bool {
				got = append(got, n)
				return len(got) < stop
			})
			if !slices.Equal(got, want[:stop]) {
				t.Errorf("%s: stopped at the %dth it gave %d", name, stop, got)
			}
			holdGiven(t, seq, want)
		}
	}
}

// P9.6: gone through while it is being gone through, each time from the beginning.
func TestInsideItself(t *testing.T) {
	_, all, given := iterators(t)
	for name, seq := range all {
		want := given[name]
		var outer []int
		for n := range seq {
			outer = append(outer, n)
			for range seq {
				break
			}
			holdGiven(t, seq, want)
		}
		if !slices.Equal(outer, want) {
			t.Errorf("%s: about others of its own it gave %d, want %d", name, outer, want)
		}
	}
}

// P9.6: two that are pulled in turns don't see each other.
func TestInTurns(t *testing.T) {
	_, all, given := iterators(t)
	for name, seq := range all {
		next, stop := iter.Pull(seq)
		other, stopOther := iter.Pull(seq)
		for i := range len(given[name]) + 1 {
			a, okA := next()
			b, okB := other()
			if a != b || okA != okB || okA != (i < len(given[name])) || okA && a != given[name][i] {
				t.Errorf("%s: at %d they gave %d, %v and %d, %v", name, i, a, okA, b, okB)
			}
		}
		stop()
		stopOther()
	}
}

// P9.6, P9.7: an iterator is of the tree that gave it, whatever is asked or built since.
func TestIteratorsStay(t *testing.T) {
	tree, all, given := iterators(t)
	for n := -1; n <= tree.Len(); n++ {
		tree.Children(n)
		tree.Entry(n)
		for range tree.Up(n) {
			tree.Span(n)
		}
		for range tree.Scope(n, api.WholeSubtree) {
			tree.Find(nil)
		}
	}
	built(t, written("/ z z/y"))
	for name, seq := range all {
		holdGiven(t, seq, given[name])
	}
}
