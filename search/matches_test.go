package search

import (
	"iter"
	"slices"
	"testing"

	"roster/api"
)

// P16.3, and P16.4, P16.5 with it: the chapter's examples of what is meant.
func TestMeantExamples(t *testing.T) {
	s := chapterStore(t)
	names := chapterNames()
	for _, c := range []struct {
		base  string
		scope api.Scope
		text  string
		want  []int
	}{
		{"o=x", api.WholeSubtree, "(mail=*)", []int{2, 5}},
		{"o=x", api.SingleLevel, "(ou=*)", []int{1, 4}},
		{"o=x", api.BaseObject, "(o=X)", []int{0}},
		{"o=x", api.WholeSubtree, "(!(mail=*))", []int{0, 1, 3, 4}},
		{"o=x", api.WholeSubtree, "(foo=x)", nil},
		{"o=x", api.WholeSubtree, "(!(foo=x))", nil},
		{"o=x", 7, "(&)", nil},
		{"o=x", api.WholeSubtree, "(|(sn=ADA)(sn=  bob ))", []int{2, 3}},
		{"o=x", api.WholeSubtree, "(sn=*a)", []int{2}},
		{"o=x", api.SingleLevel, "(description=GROUP)", []int{1, 4}},
		{"ou=b,o=x", api.SingleLevel, "(&)", []int{5}},
		{"ou=b,o=x", api.SingleLevel, "(|)", nil},
		{"cn=1,ou=b,o=x", api.SingleLevel, "(&)", nil},
		{"cn=9,o=x", api.WholeSubtree, "(&)", nil},
		{"x", api.WholeSubtree, "(&)", nil},
	} {
		q := api.Search{Base: c.base, Scope: c.scope, Filter: parsed(t, c.text)}
		holdMatches(t, s, q, c.want)
		holdGiven(t, s.Matches(q), c.want)
		if _, r := s.Base(c.base); r != (api.Result{}) {
			holdFound(t, s, q, nil, r)
			continue
		}
		var want []string
		for _, n := range c.want {
			want = append(want, names[n])
		}
		holdNames(t, s, q, want...)
	}
}

// P16.3, P16.4, P16.5: each scope of each base, and numbers that are no scope.
func TestScopes(t *testing.T) {
	s := chapterStore(t)
	names := chapterNames()
	for base, want := range [][3][]int{
		{{0}, {1, 4}, {0, 1, 2, 3, 4, 5}},
		{{1}, {2, 3}, {1, 2, 3}},
		{{2}, nil, {2}},
		{{3}, nil, {3}},
		{{4}, {5}, {4, 5}},
		{{5}, nil, {5}},
	} {
		for scope, numbers := range want {
			q := api.Search{Base: names[base], Scope: api.Scope(scope), Filter: every()}
			holdMatches(t, s, q, numbers)
			var found []string
			for _, n := range numbers {
				found = append(found, names[n])
			}
			holdNames(t, s, q, found...)
			q.Filter = parsed(t, "(|)")
			holdMatches(t, s, q, nil)
			holdNames(t, s, q)
		}
		for _, scope := range []api.Scope{-1 << 63, -2, -1, 3, 4, 7, 255, 256, 257, 258, 1 << 32, 1<<32 + 1, 1<<63 - 1} {
			q := api.Search{Base: names[base], Scope: scope, Filter: every()}
			holdMatches(t, s, q, nil)
			holdFound(t, s, q, nil, api.Result{})
		}
	}
}

// P16.3: what a name is written like makes no difference to what is beneath it: keys are compared part by part.
func TestNeighbours(t *testing.T) {
	s := storeOf(t, named(t, "o=x", "ou=a,o=x", "cn=1,ou=a,o=x", "ou=a!,o=x", "ou=aa,o=x", "cn=1,ou=aa,o=x", "ou=a\\,o\\=x,o=x", "ou=a+l=b,o=x", "ou=A \\20b,o=x"))
	for scope, want := range map[api.Scope][]string{
		api.BaseObject:   {"ou=a,o=x"},
		api.SingleLevel:  {"cn=1,ou=a,o=x"},
		api.WholeSubtree: {"ou=a,o=x", "cn=1,ou=a,o=x"},
	} {
		holdNames(t, s, api.Search{Base: "ou=a,o=x", Scope: scope, Filter: every()}, want...)
	}
}

// P16.3: limits, Deref, TypesOnly and Attributes are not looked at.
func TestNotLookedAt(t *testing.T) {
	s := chapterStore(t)
	plain := api.Search{Base: "o=x", Scope: api.WholeSubtree, Filter: parsed(t, "(sn=*)")}
	for _, number := range []int{-1 << 63, -1, 0, 1, 2, 3, 4, 1<<63 - 1} {
		for i := range 3 {
			q := plain
			*[]*int{&q.SizeLimit, &q.TimeLimit, &q.Deref}[i] = number
			holdMatches(t, s, q, []int{2, 3, 5})
		}
	}
	for _, wanted := range [][]string{nil, {}, {"sn"}, {"1.1"}, {"*", "+"}, {"", "\xff"}} {
		q := plain
		q.Attributes, q.TypesOnly = wanted, len(wanted) != 1
		holdMatches(t, s, q, []int{2, 3, 5})
	}
}

// iterators are some of each scope, with what they give.
func iterators(t *testing.T) (map[string]iter.Seq[int], map[string][]int) {
	s := chapterStore(t)
	of := func(base string, scope api.Scope, text string) iter.Seq[int] {
		return s.Matches(api.Search{Base: base, Scope: scope, Filter: parsed(t, text), SizeLimit: 1})
	}
	return map[string]iter.Seq[int]{
		"all":     of("o=x", api.WholeSubtree, "(&)"),
		"some":    of("o=x", api.WholeSubtree, "(!(mail=*))"),
		"level":   of("o=x", api.SingleLevel, "(description=group)"),
		"base":    of("ou=a,o=x", api.BaseObject, "(ou=a)"),
		"none":    of("o=x", api.WholeSubtree, "(foo=x)"),
		"refused": of("o=y", api.WholeSubtree, "(&)"),
		"bad":     of("x", api.WholeSubtree, "(&)"),
	}, map[string][]int{
		"all": {0, 1, 2, 3, 4, 5}, "some": {0, 1, 3, 4}, "level": {1, 4}, "base": {1}, "none": nil, "refused": nil, "bad": nil,
	}
}

// P16.3: stopped behind any number it yields nothing more; ranged over again it begins anew.
func TestStopped(t *testing.T) {
	all, given := iterators(t)
	for name, seq := range all {
		want := given[name]
		for stop := 1; stop <= len(want); stop++ {
			var got []int
			seq(func(n int) bool {
				got = append(got, n)
				return len(got) < stop
			})
			if !slices.Equal(got, want[:stop]) {
				t.Errorf("%s: stopped at the %dth it gave %d", name, stop, got)
			}
			got = nil
			for n := range seq {
				got = append(got, n)
				if len(got) == stop {
					break
				}
			}
			if !slices.Equal(got, want[:stop]) {
				t.Errorf("%s: broken off at the %dth it gave %d", name, stop, got)
			}
			holdGiven(t, seq, want)
		}
		holdGiven(t, seq, want)
	}
}

// P16.3, P0.1: ranged over inside a ranging over it, each time from the beginning by itself.
func TestInsideItself(t *testing.T) {
	all, given := iterators(t)
	for name, seq := range all {
		var outer []int
		for n := range seq {
			outer = append(outer, n)
			for range seq {
				break
			}
			holdGiven(t, seq, given[name])
		}
		if !slices.Equal(outer, given[name]) {
			t.Errorf("%s: about others of its own it gave %d, want %d", name, outer, given[name])
		}
	}
}

// P16.3, P0.1: two that are pulled in turns don't see each other.
func TestInTurns(t *testing.T) {
	all, given := iterators(t)
	for name, seq := range all {
		next, stop := iter.Pull(seq)
		other, stopOther := iter.Pull(seq)
		for i := range len(given[name]) + 1 {
			a, okA := next()
			b, okB := other()
			if a != b || okA != okB || okA != (i < len(given[name])) || okA && a != given[name][i] {
				t.Errorf("%s: at %d they gave %d, %v and %d, %v", name, i, a, okA, b, okB)
			}
		}
		stop()
		stopOther()
	}
}

// P16.3: rising, each once, whatever the tree, the search and the order in which a map is gone through.
func TestRising(t *testing.T) {
	m := newMaker(163)
	for range 20 {
		paths := m.paths(100)
		s := storeOf(t, m.entries(t, paths))
		for range 30 {
			q := m.search(paths)
			q.Base, q.Scope = paths[0].spelt(m.Rand), api.WholeSubtree
			numbers := slices.Collect(s.Matches(q))
			for i := range numbers {
				if numbers[i] < 0 || numbers[i] >= s.Tree().Len() || i > 0 && numbers[i] <= numbers[i-1] {
					t.Fatalf("Matches(%s) = %d", toldSearch(q), numbers)
				}
			}
			holdGiven(t, s.Matches(q), numbers)
		}
	}
}
