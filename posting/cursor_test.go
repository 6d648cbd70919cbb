package posting

import (
	"math/rand"
	"slices"
	"testing"
)

// P10.8 to P10.12: the chapter's examples.
func TestCursorExamples(t *testing.T) {
	c := NewCursor([]int{9, 1, 4, 4})
	holdHere(t, c, []int{1, 4, 9})
	c.Skip(2)
	holdHere(t, c, []int{4, 9})
	c.Skip(1)
	holdHere(t, c, []int{4, 9})
	c.Next()
	holdHere(t, c, []int{9})
	c.Next()
	holdHere(t, c, nil)
	c.Next()
	c.Skip(0)
	holdHere(t, c, nil)
	holdHere(t, NewCursor([]int{}), nil)
	d := NewCursor([]string{"a"})
	d.Skip("a")
	holdHere(t, d, []string{"a"})
	d.Skip("b")
	holdHere(t, d, nil)
}

// P10.8 to P10.12: a cursor over nothing stays behind its end.
func TestCursorOverNothing(t *testing.T) {
	c := NewCursor[string](nil)
	for _, x := range []string{"", "a", "\xff"} {
		c.Skip(x)
		holdHere(t, c, nil)
		c.Next()
		holdHere(t, c, nil)
	}
}

// holdMoves tries every row of moves of a length: Next, and Skip to each of the targets.
func holdMoves(t *testing.T, c Cursor[int], left, targets []int, length int) {
	holdHere(t, &c, left)
	if length == 0 {
		return
	}
	next := c
	next.Next()
	holdMoves(t, next, left[min(1, len(left)):], targets, length-1)
	for _, x := range targets {
		skip := c
		skip.Skip(x)
		holdMoves(t, skip, slowSkip(left, x), targets, length-1)
	}
}

// P10.9 to P10.12: all short rows of moves, to elements, between them, and beyond both ends.
func TestAllMoves(t *testing.T) {
	targets := []int{-1, 0, 1, 2, 3, 4, 5, 6, 7}
	for list := range allLists([]int{0, 2, 4, 6}, 3) {
		holdMoves(t, *NewCursor(list), slowSet(list), targets, 2)
	}
	holdMoves(t, *NewCursor([]int{6, 0, 4, 2, 0}), []int{0, 2, 4, 6}, targets, 4)
}

// P10.11: from each element of a set, of each length about the powers of two, to each place ahead and behind.
func TestSkipFar(t *testing.T) {
	for length := range 35 {
		var set []int
		for i := range length {
			set = append(set, 2*i)
		}
		for from := range length + 1 {
			for x := -1; x <= 2*length; x++ {
				c := NewCursor(set)
				for range from {
					c.Next()
				}
				c.Skip(x)
				holdHere(t, c, slowSkip(set[from:], x))
			}
		}
	}
}

// P10.9 to P10.12: long walks with fixed seeds.
func TestRandomWalks(t *testing.T) {
	r := rand.New(rand.NewSource(104))
	for range 300 {
		list := someList(r, 1+r.Intn(200), 500)
		c, left, x := NewCursor(list), slowSet(list), -260
		for range 60 {
			if r.Intn(3) == 0 {
				c.Next()
				left = left[min(1, len(left)):]
			} else {
				x += r.Intn(40) - 12
				c.Skip(x)
				left = slowSkip(left, x)
			}
			holdHere(t, c, left)
		}
	}
}

// P10.8: the cursor does not see what is done with the list, and cursors over one list do not see each other.
func TestCursorKeepsACopy(t *testing.T) {
	for _, list := range [][]int{{1, 4, 9}, {9, 1, 4, 4}} {
		c, d := NewCursor(list), NewCursor(list)
		clear(list)
		c.Skip(5)
		holdHere(t, c, []int{9})
		holdWalk(t, d, []int{1, 4, 9})
		holdHere(t, c, []int{9})
		slices.Reverse(list)
		holdWalk(t, c, []int{9})
	}
}
