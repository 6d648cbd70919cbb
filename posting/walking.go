package posting

import "iter"

// ordered is the set of a list, for reading alone: a list that is rising already is not copied.
func ordered[T Key](list []T) []T {
	if Rising(list) {
		return list
	}
	return Of(list)
}

// sift gives those of a set that stand in the other one, or those that don't.
func sift[T Key](set, other []T, wanted bool) []T {
	var out []T
	c := &Cursor[T]{rest: other}
	for _, x := range set {
		c.Skip(x)
		here, ok := c.Here()
		if (ok && here == x) == wanted {
			out = append(out, x)
		}
	}
	return out
}

// counted gives each element of the sets once, rising, and in how many of them it stands.
func counted[T Key](sets [][]T) iter.Seq2[T, int] {
	return func(yield func(T, int) bool) {
		h := headsOf(sets)
		for len(h) > 0 {
			least, times := h[0].rest[0], 0
			for len(h) > 0 && h[0].rest[0] == least {
				h.step()
				times++
			}
			if !yield(least, times) {
				return
			}
		}
	}
}

// heads is a heap of cursors, the one on the least element at its top; none stands behind its last element.
type heads[T Key] []Cursor[T]

// headsOf puts cursors of its own on the sets, so that each walk begins anew.
func headsOf[T Key](sets [][]T) heads[T] {
	var h heads[T]
	for _, set := range sets {
		if len(set) > 0 {
			h = append(h, Cursor[T]{rest: set})
		}
	}
	for i := len(h)/2 - 1; i >= 0; i-- {
		h.sink(i)
	}
	return h
}

// step moves the top cursor on; one on its last element leaves the heap instead.
func (h *heads[T]) step() {
	top, last := &(*h)[0], len(*h)-1
	if top.Left() > 1 {
		top.Next()
	} else {
		*top = (*h)[last]
		*h = (*h)[:last]
	}
	h.sink(0)
}

// sink lets the cursor at i change places with the lesser one beneath it till it is not above it.
func (h heads[T]) sink(i int) {
	for {
		least := i
		for child := 2*i + 1; child <= 2*i+2 && child < len(h); child++ {
			if h[child].rest[0] < h[least].rest[0] {
				least = child
			}
		}
		if least == i {
			return
		}
		h[i], h[least] = h[least], h[i]
		i = least
	}
}
