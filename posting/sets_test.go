package posting

import (
	"math"
	"math/rand"
	"slices"
	"testing"
)

// P10.1: the chapter's examples.
func TestOfExamples(t *testing.T) {
	hold(t, "Of", Of([]int{3, 1, 3, 2}), []int{1, 2, 3})
	hold(t, "Of", Of([]string{"b", "a", "b"}), []string{"a", "b"})
	hold(t, "Of", Of([]int{}), nil)
	hold(t, "Of", Of[string](nil), nil)
}

// P10.2: the chapter's examples, and faults at each end of a list.
func TestRisingExamples(t *testing.T) {
	for _, list := range [][]int{{1, 2, 5}, {}, nil, {7}, {-1, 0}, {math.MinInt, math.MaxInt}} {
		if !Rising(list) {
			t.Errorf("Rising(%d) = false", list)
		}
	}
	for _, list := range [][]int{{1, 1}, {2, 1}, {1, 1, 2}, {1, 2, 2}, {2, 1, 3}, {1, 3, 2}, {math.MaxInt, math.MinInt}} {
		if Rising(list) {
			t.Errorf("Rising(%d) = true", list)
		}
	}
	if !Rising([]string{"", "\x00", "B", "a", "a\x00", "ab", "\xff"}) || Rising([]string{"a", "B"}) || Rising([]string{"ab", "a"}) {
		t.Error("texts do not rise as bytes")
	}
}

// P10.3: the chapter's examples.
func TestUnionExamples(t *testing.T) {
	hold(t, "Union", Union([]int{1, 4}, []int{2, 4, 9}), []int{1, 2, 4, 9})
	hold(t, "Union", Union[int](), nil)
	hold(t, "Union", Union([]int{3}, []int{1, 2}, []int{2, 3}), []int{1, 2, 3})
	hold(t, "Union", Union([]int{2, 1, 2}), []int{1, 2})
	hold(t, "Union", Union([]string{"a", "c"}, []string{"B"}), []string{"B", "a", "c"})
	hold(t, "Union", Union([]int(nil), nil, []int{}), nil)
}

// P10.4: the chapter's examples.
func TestMeetExamples(t *testing.T) {
	hold(t, "Meet", Meet([]int{1, 4, 9}, []int{4, 9, 11}), []int{4, 9})
	hold(t, "Meet", Meet([]int{9, 1, 1}, []int{1, 9, 2}), []int{1, 9})
	hold(t, "Meet", Meet[int](), nil)
	hold(t, "Meet", Meet([]int{2, 1}), []int{1, 2})
	hold(t, "Meet", Meet([]int{1, 2, 3}, []int{2, 3}, []int{3, 5}), []int{3})
	hold(t, "Meet", Meet([]int{1}, nil), nil)
	hold(t, "Meet", Meet(nil, []int{1}), nil)
}

// P10.5: the chapter's examples.
func TestMinusExamples(t *testing.T) {
	hold(t, "Minus", Minus([]int{1, 4, 9}, []int{4}), []int{1, 9})
	hold(t, "Minus", Minus([]int{}, []int{4}), nil)
	hold(t, "Minus", Minus([]int{9, 1, 9}, []int{}), []int{1, 9})
	hold(t, "Minus", Minus([]int{9, 1, 9}, []int{9, 9, 3, 9}), []int{1})
	hold(t, "Minus", Minus[string](nil, nil), nil)
}

// P10.6: the chapter's examples, and what it says behind the promise.
func TestAtLeastExamples(t *testing.T) {
	hold(t, "AtLeast", AtLeast(2, []int{1, 2}, []int{2, 3}, []int{3, 4}), []int{2, 3})
	hold(t, "AtLeast", AtLeast(2, []int{1, 1}, []int{2}), nil)
	hold(t, "AtLeast", AtLeast(0, []int{5}, []int{4}), []int{4, 5})
	hold(t, "AtLeast", AtLeast(4, []int{1}, []int{1}, []int{1}), nil)
	twice := []int{7, 3, 7}
	hold(t, "AtLeast", AtLeast(2, twice, twice), []int{3, 7})
	hold(t, "AtLeast", AtLeast(2, twice), nil)
	for _, k := range []int{math.MinInt, -1, 0, 1, 2, math.MaxInt} {
		hold(t, "AtLeast", AtLeast[string](k), nil)
		hold(t, "AtLeast", AtLeast[string](k, nil, nil), nil)
	}
}

// P10.1 to P10.10, P10.12: all short lists of a few elements, alone.
func TestAllShortLists(t *testing.T) {
	for list := range allLists([]int{-1, 0, 1, 2}, 5) {
		holdOne(t, list)
	}
	for list := range allLists([]string{"", "A", "a", "aa"}, 4) {
		holdOne(t, list)
	}
}

// P10.3 to P10.7: all pairs and triples of short lists.
func TestAllShortRows(t *testing.T) {
	pairs := slices.Collect(allLists([]int{-2, 0, 5}, 3))
	for _, a := range pairs {
		for _, b := range pairs {
			holdAll(t, a, b)
		}
	}
	triples := slices.Collect(allLists([]string{"", "b"}, 2))
	for _, a := range triples {
		for _, b := range triples {
			for _, c := range triples {
				holdAll(t, a, b, c)
			}
		}
	}
}

// P10.3 to P10.7: rows of many lists, long and short ones, overlapping much and little.
func TestRandomRows(t *testing.T) {
	r := rand.New(rand.NewSource(101))
	for range 600 {
		holdAll(t, someLists(r, 9, 12, 1+r.Intn(30))...)
	}
	for range 15 {
		holdAll(t, someLists(r, 40, 30, 200)...)
	}
	for range 10 {
		long, short := someList(r, 600, 2000), someList(r, 5, 2000)
		holdAll(t, long, short)
		holdAll(t, short, long)
		holdAll(t, short, long, long, someList(r, 600, 2000))
	}
}

// holdKind holds all calls at lists of a type's elements, of which the first is below all others, and the last above them.
func holdKind[T Key](t *testing.T, elements ...T) {
	t.Helper()
	hold(t, "Of", Of(elements), elements)
	backward := slices.Clone(elements)
	slices.Reverse(backward)
	hold(t, "Of", Of(backward), elements)
	for list := range allLists(elements, 2) {
		holdOne(t, list)
		holdAll(t, list, backward)
		holdAll(t, elements, list, elements)
		for _, x := range elements {
			c := NewCursor(list)
			c.Skip(x)
			holdWalk(t, c, slowSkip(slowSet(list), x))
		}
	}
}

// P10.1 to P10.12: each type of Key, its least and its greatest number, and types of these kinds.
func TestEveryKind(t *testing.T) {
	holdKind(t, math.MinInt, math.MinInt+1, -1, 0, 1, math.MaxInt-1, math.MaxInt)
	holdKind[int32](t, math.MinInt32, -1, 0, 1, math.MaxInt32)
	holdKind[int64](t, math.MinInt64, math.MinInt32-1, -1, 0, 1<<53, 1<<53+1, math.MaxInt64)
	holdKind[uint32](t, 0, 1, math.MaxInt32, math.MaxInt32+1, math.MaxUint32)
	holdKind(t, "", "\x00", "\x00\x00", "10", "9", "B", "a", "a\x00", "ab", "b", "\x80", "ä", "\xff")
	holdKind[place](t, math.MinInt32, 0, math.MaxInt32)
	holdKind[word](t, "", "Z", "z")
}

// P10.1 to P10.6: long lists, whose answers are known by their rule.
func TestLongLists(t *testing.T) {
	const n = 200000
	var twos, threes, down []int
	for i := range n {
		twos, threes, down = append(twos, 2*i), append(threes, 3*i), append(down, n-i)
	}
	for _, x := range Meet(twos, threes) {
		if x%6 != 0 {
			t.Fatalf("%d stands in both", x)
		}
	}
	for what, got := range map[string][2]int{
		"Meet":    {len(Meet(twos, threes)), (2*n-1)/6 + 1},
		"Union":   {len(Union(twos, threes)), 2*n - (2*n-1)/6 - 1},
		"Minus":   {len(Minus(twos, threes)), n - (2*n-1)/6 - 1},
		"AtLeast": {len(AtLeast(2, twos, threes)), (2*n-1)/6 + 1},
		"Of":      {len(Of(append(down, down...))), n},
	} {
		if got[0] != got[1] {
			t.Errorf("%s: %d elements, want %d", what, got[0], got[1])
		}
	}
	if got := Of(down); !Rising(got) || got[0] != 1 || got[n-1] != n {
		t.Error("Of a falling list")
	}
}

// P10.3, P10.6: many lists.
func TestManyLists(t *testing.T) {
	const n = 20000
	lists := make([][]int, n)
	for i := range lists {
		lists[i] = []int{n - i, 0, i % 2}
	}
	if got := Union(lists...); len(got) != n+1 || !Rising(got) {
		t.Errorf("Union has %d elements", len(got))
	}
	hold(t, "AtLeast", AtLeast(n, lists...), []int{0})
	hold(t, "AtLeast", AtLeast(n/2, lists...), []int{0, 1})
	hold(t, "AtLeast", AtLeast(n+1, lists...), nil)
	hold(t, "Meet", Meet(lists...), []int{0})
}
