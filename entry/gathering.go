package entry

import (
	"roster/api"
	"roster/attr"
	"roster/match"
)

// gathering is a list of attributes that grows: each has a place, and is found by its canonical form.
type gathering struct {
	places map[string]int
	heaps  []heap // by place
	marks  map[mark]struct{}
}

// heap is what is gathered of one attribute.
type heap struct {
	desc   string
	syntax api.Syntax
	values []string
}

// mark is the same of two values just if they are equal values of the attribute at this place: so no value needs to be held against all those ahead of it.
type mark struct {
	place  int
	normal bool // the text is a normal form; else it is the value itself, which has none
	text   string
}

func newGathering() *gathering {
	return &gathering{places: map[string]int{}, marks: map[mark]struct{}{}}
}

// place finds the attribute with this canonical form; where there is none, one without a value begins behind the others.
func (g *gathering) place(desc, canon string) int {
	place, found := g.places[canon]
	if !found {
		place = len(g.heaps)
		g.places[canon] = place
		g.heaps = append(g.heaps, heap{desc: desc, syntax: attr.Syntax(canon)})
	}
	return place
}

// put lays a value behind the others of its attribute, unless one of them is equal to it.
func (g *gathering) put(place int, value string) {
	h := &g.heaps[place]
	m := mark{place: place, text: value}
	if normal, ok := match.Normal(h.syntax, value); ok {
		m.normal, m.text = true, normal
	}
	if _, there := g.marks[m]; there {
		return
	}
	g.marks[m] = struct{}{}
	h.values = append(h.values, value)
}

// addPairs tells whether each pair has a description; it stops at the first that has none.
func (g *gathering) addPairs(pairs []api.Pair) bool {
	for _, pair := range pairs {
		canon, err, _ := attr.Canonical(pair.Desc)
		if err != api.OK {
			return false
		}
		g.put(g.place(pair.Desc, canon), pair.Value)
	}
	return true
}

func (g *gathering) addAttrs(attrs []api.Attr) {
	for _, a := range attrs {
		place := g.place(a.Desc, a.Canon)
		for _, value := range a.Values {
			g.put(place, value)
		}
	}
}

// tell lays each attribute at its place, so the order in which the map is gone through isn't seen.
func (g *gathering) tell() []api.Attr {
	attrs := make([]api.Attr, len(g.heaps))
	for canon, place := range g.places {
		h := g.heaps[place]
		attrs[place] = api.Attr{Desc: h.desc, Canon: canon, Values: h.values}
	}
	return attrs
}
