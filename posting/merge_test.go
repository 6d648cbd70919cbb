package posting

import (
	"iter"
	"math/rand"
	"slices"
	"testing"
)

// front takes what an iterator yields, and stops it behind so many elements.
func front[T Key](seq iter.Seq[T], n int) []T {
	var out []T
	if n == 0 {
		return nil
	}
	for x := range seq {
		out = append(out, x)
		if len(out) == n {
			break
		}
	}
	return out
}

// P10.7: the chapter's example.
func TestMergeExample(t *testing.T) {
	m := Merge([]int{5, 7}, []int{1, 5, 9}, []int{})
	hold(t, "Merge", front(m, 2), []int{1, 5})
	hold(t, "Merge", slices.Collect(m), []int{1, 5, 7, 9})
	for range Merge[int]() {
		t.Error("Merge() yields something")
	}
	for range Merge([]string{}, nil) {
		t.Error("Merge of empty lists yields something")
	}
}

// P10.7: stopped behind each element, it yields no more, and begins anew.
func TestMergeStopped(t *testing.T) {
	r := rand.New(rand.NewSource(102))
	for range 200 {
		lists := someLists(r, 5, 8, 20)
		want, m := slowUnion(lists...), Merge(lists...)
		for n := 1; n <= len(want); n++ {
			calls := 0
			m(func(int) bool {
				calls++
				return calls < n
			})
			if calls != n {
				t.Fatalf("Merge of %d: stopped behind %d elements, it went on to %d", lists, n, calls)
			}
			hold(t, "Merge, stopped", front(m, n), want[:n], lists...)
			hold(t, "Merge, again", slices.Collect(m), want, lists...)
		}
	}
}

// P10.7, P0.1: it is gone through inside a going through it.
func TestMergeInside(t *testing.T) {
	m, want := Merge([]int{4, 2}, []int{2, 9, 7}), []int{2, 4, 7, 9}
	var outer []int
	for x := range m {
		outer = append(outer, x)
		hold(t, "Merge, inside", slices.Collect(m), want)
		hold(t, "Merge, inside", front(m, 2), want[:2])
	}
	hold(t, "Merge, outside", outer, want)
}

// P10.7: two walks, step by step beside each other.
func TestMergePulled(t *testing.T) {
	m := Merge([]string{"c", "a"}, []string{"b", "c"})
	first, stopFirst := iter.Pull(m)
	second, stopSecond := iter.Pull(m)
	defer stopFirst()
	defer stopSecond()
	first()
	for _, want := range []string{"a", "b", "c"} {
		if got, ok := second(); got != want || !ok {
			t.Errorf("the second walk is at %q, %v, want %q", got, ok, want)
		}
	}
	if got, ok := first(); got != "b" || !ok {
		t.Errorf("the first walk is at %q, %v", got, ok)
	}
}

// P10.7: what becomes of the lists, and of the row of them, behind the call makes no difference, ahead of a walk and inside of one.
func TestMergeKeepsCopies(t *testing.T) {
	r := rand.New(rand.NewSource(103))
	for range 200 {
		lists := someLists(r, 5, 8, 20)
		want, m := slowUnion(lists...), Merge(lists...)
		spoil := func() {
			for _, list := range lists {
				for i := range list {
					list[i] = r.Intn(40) - 20
				}
			}
			for i := range lists {
				lists[i] = []int{-99, 99}
			}
		}
		if r.Intn(2) == 0 {
			spoil()
		}
		var got []int
		for x := range m {
			got = append(got, x)
			spoil()
		}
		hold(t, "Merge", got, want)
		hold(t, "Merge", slices.Collect(m), want)
	}
}

// P10.7: the elements are made as they are asked for, so a front of long lists asks for little memory.
func TestMergeIsLazy(t *testing.T) {
	long := make([]int, 100000)
	for i := range long {
		long[i] = i
	}
	m := Merge(long, long, long)
	front(m, 1)
	most := testing.AllocsPerRun(20, func() {
		for x := range m {
			if x == 10 {
				break
			}
		}
	})
	if most > 20 {
		t.Errorf("ten elements ask for memory %v times", most)
	}
}
