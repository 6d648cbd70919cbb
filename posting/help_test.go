package posting

import (
	"iter"
	"math"
	"math/rand"
	"slices"
	"testing"
)

// place and word are types of their own, whose kinds a list may hold.
type place int32
type word string

// slowRising is the chapter's word, of any two elements and not of neighbours alone.
func slowRising[T Key](xs []T) bool {
	for i := range xs {
		for j := range i {
			if !(xs[j] < xs[i]) {
				return false
			}
		}
	}
	return true
}

// slowSet puts each element, if it isn't there yet, behind all that are below it.
func slowSet[T Key](xs []T) []T {
	var out []T
	for _, x := range xs {
		if slices.Contains(out, x) {
			continue
		}
		at := 0
		for _, y := range out {
			if y < x {
				at++
			}
		}
		out = slices.Insert(out, at, x)
	}
	return out
}

// slowWhere is the set of those elements of all the lists of which the question holds, told in how many lists one stands.
func slowWhere[T Key](lists [][]T, asked func(x T, times int) bool) []T {
	var out []T
	for _, x := range slowSet(slices.Concat(lists...)) {
		times := 0
		for _, list := range lists {
			if slices.Contains(list, x) {
				times++
			}
		}
		if asked(x, times) {
			out = append(out, x)
		}
	}
	return out
}

func slowUnion[T Key](lists ...[]T) []T {
	return slowSet(slices.Concat(lists...))
}

func slowMeet[T Key](lists ...[]T) []T {
	return slowWhere(lists, func(_ T, times int) bool { return times == len(lists) })
}

func slowMinus[T Key](a, b []T) []T {
	return slowWhere([][]T{a}, func(x T, _ int) bool { return !slices.Contains(b, x) })
}

func slowAtLeast[T Key](k int, lists ...[]T) []T {
	return slowWhere(lists, func(_ T, times int) bool { return times >= k && times >= 1 })
}

func hold[T Key](t *testing.T, what string, got, want []T, from ...[]T) {
	t.Helper()
	if !slices.Equal(got, want) {
		t.Fatalf("%s of %#v: %#v, want %#v", what, from, got, want)
	}
}

// counts are k's about the number of lists, and far off.
func counts(lists int) []int {
	return []int{math.MinInt, -1, 0, 1, 2, lists - 1, lists, lists + 1, math.MaxInt}
}

// holdAll holds every call that takes several lists to the chapter told a second time.
func holdAll[T Key](t *testing.T, lists ...[]T) {
	t.Helper()
	want := slowUnion(lists...)
	hold(t, "Union", Union(lists...), want, lists...)
	hold(t, "Merge", slices.Collect(Merge(lists...)), want, lists...)
	hold(t, "Meet", Meet(lists...), slowMeet(lists...), lists...)
	for _, k := range counts(len(lists)) {
		hold(t, "AtLeast", AtLeast(k, lists...), slowAtLeast(k, lists...), lists...)
	}
	if len(lists) >= 2 {
		hold(t, "Minus", Minus(lists[0], lists[1]), slowMinus(lists[0], lists[1]), lists...)
	}
}

// holdOne holds the calls that take one list, and those of several lists at this one alone.
func holdOne[T Key](t *testing.T, xs []T) {
	t.Helper()
	want := slowSet(xs)
	hold(t, "Of", Of(xs), want, xs)
	hold(t, "Minus nothing", Minus(xs, nil), want, xs)
	hold(t, "Minus itself", Minus(xs, xs), nil, xs)
	if got := Rising(xs); got != slowRising(xs) {
		t.Fatalf("Rising(%#v) = %v", xs, got)
	}
	holdAll(t, xs)
	holdAll(t, xs, xs)
	holdWalk(t, NewCursor(xs), want)
}

// holdHere holds a cursor to stand ahead of these elements.
func holdHere[T Key](t *testing.T, c *Cursor[T], left []T) {
	t.Helper()
	var want T
	if len(left) > 0 {
		want = left[0]
	}
	for range 2 {
		if got, ok := c.Here(); got != want || ok != (len(left) > 0) {
			t.Fatalf("Here() = %#v, %v ahead of %#v", got, ok, left)
		}
		if got := c.Left(); got != len(left) {
			t.Fatalf("Left() = %d ahead of %#v", got, left)
		}
	}
}

// holdWalk holds a cursor to go through these elements step by step, and to stay at their end.
func holdWalk[T Key](t *testing.T, c *Cursor[T], left []T) {
	t.Helper()
	for i := range left {
		holdHere(t, c, left[i:])
		c.Next()
	}
	for range 3 {
		holdHere(t, c, nil)
		c.Next()
	}
}

// slowSkip drops elements one by one.
func slowSkip[T Key](left []T, x T) []T {
	for len(left) > 0 && left[0] < x {
		left = left[1:]
	}
	return left
}

// allLists gives every list of these elements, up to a length.
func allLists[T Key](elements []T, longest int) iter.Seq[[]T] {
	return func(yield func([]T) bool) {
		level := [][]T{nil}
		for range longest + 1 {
			var next [][]T
			for _, list := range level {
				if !yield(list) {
					return
				}
				for _, x := range elements {
					next = append(next, append(slices.Clone(list), x))
				}
			}
			level = next
		}
	}
}

// someList is a list of numbers below a bound, rising by chance at least every other time.
func someList(r *rand.Rand, longest, bound int) []int {
	out := make([]int, r.Intn(longest+1))
	for i := range out {
		out[i] = r.Intn(bound) - bound/2
	}
	if r.Intn(2) == 0 {
		return slowSet(out)
	}
	return out
}

func someLists(r *rand.Rand, most, longest, bound int) [][]int {
	out := make([][]int, r.Intn(most+1))
	for i := range out {
		out[i] = someList(r, longest, bound)
	}
	return out
}
