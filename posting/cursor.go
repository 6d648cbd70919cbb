package posting

import "slices"

// Cursor walks a set, rising.
type Cursor[T Key] struct {
	// The elements from the one on which it stands; they are read only, so cursors may share them.
	rest []T
}

// NewCursor makes a cursor over the set of the elements, on its least one.
func NewCursor[T Key](xs []T) *Cursor[T] {
	return &Cursor[T]{rest: Of(xs)}
}

// Here tells the element on which the cursor stands; false behind the last one.
func (c *Cursor[T]) Here() (T, bool) {
	if len(c.rest) == 0 {
		var zero T
		return zero, false
	}
	return c.rest[0], true
}

// Next goes to the next element.
func (c *Cursor[T]) Next() {
	if len(c.rest) > 0 {
		c.rest = c.rest[1:]
	}
}

// Skip goes on to the first element that isn't below x; it never goes back.
func (c *Cursor[T]) Skip(x T) {
	c.rest = c.rest[below(c.rest, x):]
}

// Left tells how many elements there are from the cursor on.
func (c *Cursor[T]) Left() int {
	return len(c.rest)
}

// below counts the elements of a set that are below x. Its steps double till they are too wide, so that what lies near is found by few looks, however long the set is.
func below[T Key](set []T, x T) int {
	width := 1
	for width <= len(set) && set[width-1] < x {
		width *= 2
	}
	sure, most := width/2, min(width-1, len(set))
	more, _ := slices.BinarySearch(set[sure:most], x)
	return sure + more
}
