package posting

import (
	"math/rand"
	"slices"
	"sync"
	"testing"
)

// roomy is a list with spare room that has something in it.
func roomy(list []int) []int {
	return append(slices.Clone(list), 77, -77, 0)[:len(list)]
}

// roomyRow is a row of such lists, itself with such room.
func roomyRow(lists [][]int) [][]int {
	out := append(slices.Clone(lists), []int{77}, []int{-77})
	for i, list := range out {
		out[i] = roomy(list)
	}
	return out[:len(lists)]
}

// deep is a copy of all of a row, spare room too.
func deep(lists [][]int) [][]int {
	out := slices.Clone(lists[:cap(lists)])
	for i, list := range out {
		out[i] = slices.Clone(list[:cap(list)])
	}
	return out
}

func spoilList(list []int) {
	for i := range list[:cap(list)] {
		list[:cap(list)][i] = -1234
	}
}

// answers asks all calls that answer a list.
func answers(lists [][]int) [][]int {
	out := [][]int{Union(lists...), Meet(lists...), AtLeast(-1, lists...), AtLeast(1, lists...), AtLeast(2, lists...), slices.Collect(Merge(lists...))}
	for i, list := range lists {
		out = append(out, Of(list), Union(list), Meet(list), AtLeast(1, list), Minus(list, nil), Minus(list, lists[len(lists)-1-i]), Meet(list, list), Union(nil, list))
	}
	return out
}

// P0.1: nothing that is handed in is changed, spare room too.
func TestNothingIsChanged(t *testing.T) {
	r := rand.New(rand.NewSource(105))
	for range 300 {
		lists := roomyRow(someLists(r, 5, 8, 20))
		before := deep(lists)
		answers(lists)
		for _, list := range lists {
			Rising(list)
			c := NewCursor(list)
			c.Skip(0)
			c.Next()
		}
		if after := deep(lists); !slices.EqualFunc(after, before, slices.Equal) {
			t.Fatalf("%d became %d", before, after)
		}
	}
}

// P0.1: what the caller writes later, into what was handed in or into another answer, is seen in no answer.
func TestAnswersAreNewMemory(t *testing.T) {
	r := rand.New(rand.NewSource(106))
	for range 200 {
		lists := roomyRow(someLists(r, 5, 8, 20))
		first, second := answers(lists), answers(lists)
		want := deep(second)
		given := deep(lists)
		for _, list := range first {
			spoilList(list)
		}
		if after := deep(lists); !slices.EqualFunc(after, given, slices.Equal) {
			t.Fatalf("an answer is the memory of an argument: %d became %d", given, after)
		}
		for _, list := range lists {
			spoilList(list)
		}
		if after := deep(second); !slices.EqualFunc(after, want, slices.Equal) {
			t.Fatalf("%d became %d", want, after)
		}
	}
}

// P0.1: no two answers share memory, each written over alone.
func TestAnswersShareNothing(t *testing.T) {
	all := answers([][]int{{1, 2, 3}, {3, 2, 1, 3}, {2}})
	for i, list := range all {
		want := deep(all)
		spoilList(list)
		for j, other := range all {
			if j != i && !slices.Equal(other[:cap(other)], want[j]) {
				t.Fatalf("answer %d changes answer %d", i, j)
			}
		}
	}
}

// P0.1: nil and empty lists are the same, and so are all of one content, whatever room they have.
func TestNilAndEmpty(t *testing.T) {
	for _, rest := range [][][]int{{}, {{1}}, {{3, 1}, {1, 2}}} {
		asNil, asEmpty := answers(append([][]int{nil}, rest...)), answers(append([][]int{roomy(nil)}, rest...))
		if !slices.EqualFunc(asNil, asEmpty, slices.Equal) {
			t.Errorf("with nil %d, with an empty list %d", asNil, asEmpty)
		}
	}
	if !Rising[int](nil) || !Rising(roomy(nil)) {
		t.Error("an empty list is not rising")
	}
	holdWalk(t, NewCursor(roomy(nil)), nil)
}

// P0.1: an answer hangs on its arguments alone, however many ask at once.
func TestManyAtOnce(t *testing.T) {
	lists := someLists(rand.New(rand.NewSource(107)), 9, 50, 60)
	lists = append(lists, []int{4, 1}, []int{1, 2, 3})
	want, merged := answers(lists), Merge(lists...)
	union := slowUnion(lists...)
	var group sync.WaitGroup
	for range 8 {
		group.Go(func() {
			for range 20 {
				if got := answers(lists); !slices.EqualFunc(got, want, slices.Equal) {
					t.Error("another answer")
				}
				if got := slices.Collect(merged); !slices.Equal(got, union) {
					t.Error("another walk")
				}
			}
		})
	}
	group.Wait()
}
