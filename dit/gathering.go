package dit

import (
	"slices"
	"strconv"
	"strings"

	"roster/api"
	"roster/dn"
)

// gathering is what is known of a list of entries ahead of their numbers: each is told by its place in the list.
type gathering struct {
	entries []api.Entry
	places  map[string]int
	parents []int
	broods  map[int][]int // the children of each entry that has some
}

func newGathering(entries []api.Entry) *gathering {
	return &gathering{
		entries: entries,
		places:  make(map[string]int, len(entries)),
		parents: make([]int, len(entries)),
		broods:  map[int][]int{},
	}
}

// joined is one text made of a key's parts. Each stands behind its length: so no other parts, whatever their bytes, make the same text.
func joined(key []string) string {
	var out strings.Builder
	for _, part := range key {
		out.WriteString(strconv.Itoa(len(part)))
		out.WriteByte(':')
		out.WriteString(part)
	}
	return out.String()
}

// take lays the entry at this place beneath its parent, if all those ahead of it have been taken.
func (g *gathering) take(place int) api.Errno {
	key := joined(g.entries[place].Key)
	if _, double := g.places[key]; double {
		return api.ErrDouble
	}
	parent, found := g.above(place)
	if !found {
		return api.ErrOrphan
	}
	g.places[key] = place
	g.parents[place] = parent
	if parent >= 0 {
		g.broods[parent] = append(g.broods[parent], place)
	}
	return api.OK
}

// above finds the place of an entry's parent; the root has none, and needs none.
func (g *gathering) above(place int) (int, bool) {
	if place == 0 {
		return -1, true
	}
	key := g.entries[place].Key
	if len(key) == 0 {
		return -1, false
	}
	parent, found := g.places[joined(key[:len(key)-1])]
	return parent, found
}

// order tells the places in the order of the keys: each entry, then all that stands beneath its first child, and so on.
func (g *gathering) order() []int {
	for _, brood := range g.broods {
		slices.SortFunc(brood, func(a, b int) int {
			return dn.Compare(g.entries[a].Key, g.entries[b].Key)
		})
	}
	order := make([]int, 0, len(g.entries))
	waiting := []int{0}
	for len(waiting) > 0 {
		last := len(waiting) - 1
		place := waiting[last]
		order, waiting = append(order, place), waiting[:last]
		for _, child := range slices.Backward(g.broods[place]) {
			waiting = append(waiting, child)
		}
		// A brood is asked for once: what is gone leaves room.
		delete(g.broods, place)
	}
	return order
}

// tree numbers the entries.
func (g *gathering) tree() *Tree {
	t := &Tree{places: g.order(), numbers: make(map[string]int, len(g.entries))}
	numbers := make([]int, len(g.entries))
	for n, place := range t.places {
		numbers[place] = n
	}
	for key, place := range g.places {
		t.numbers[key] = numbers[place]
	}
	for n, place := range t.places {
		t.entries = append(t.entries, copied(g.entries[place]))
		t.parents = append(t.parents, -1)
		if n > 0 {
			t.parents[n] = numbers[g.parents[place]]
		}
	}
	t.ends = ends(t.parents)
	return t
}

// ends tells where the subtrees end. Children stand behind their parents, so from the last number on each is whole when its parent is told of it.
func ends(parents []int) []int {
	ends := make([]int, len(parents))
	for n, parent := range slices.Backward(parents) {
		ends[n] = max(ends[n], n+1)
		if parent >= 0 {
			ends[parent] = max(ends[parent], ends[n])
		}
	}
	return ends
}

// copied is an entry that shares no list with this one.
func copied(e api.Entry) api.Entry {
	e.Key = slices.Clone(e.Key)
	e.Attrs = slices.Clone(e.Attrs)
	for i, a := range e.Attrs {
		e.Attrs[i].Values = slices.Clone(a.Values)
	}
	return e
}
