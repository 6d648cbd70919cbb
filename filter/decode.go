package filter

import (
	"roster/api"
	"roster/ber"
)

// unpacker is the elements of one whole element, the number of the next one, and the nodes that were read.
type unpacker struct {
	elements []api.Node
	next     int
	nodes    api.Filter
}

// filter reads the filter whose element is the next one.
func (u *unpacker) filter() {
	e := u.elements[u.next]
	n := api.FilterNode{Depth: e.Depth, Op: api.FilterOp(e.Tag)}
	u.take(outer(n))
	u.fields(&n, e.Body)
	if !sound(n) {
		refuse(u.next)
	}
	u.nodes = append(u.nodes, n)
	u.kids(n)
	// Nothing of it may be left.
	if u.inside(e.Depth) {
		refuse(u.next)
	}
}

// kids reads the filters that a node holds.
func (u *unpacker) kids(n api.FilterNode) {
	switch n.Op {
	case api.Not:
		if !u.inside(n.Depth) {
			refuse(u.next)
		}
		u.filter()
	case api.And, api.Or:
		for u.inside(n.Depth) {
			u.filter()
		}
	}
}

// fields reads what an item has; body is the content of one that isn't made.
func (u *unpacker) fields(n *api.FilterNode, body string) {
	inside := n.Depth + 1
	switch n.Op {
	case api.Present:
		n.Desc = body
	case api.Equality, api.AtLeast, api.AtMost, api.Approx:
		n.Desc = u.take(octets(inside, ""))
		n.Value = u.take(octets(inside, ""))
	case api.Substrings:
		n.Desc = u.take(octets(inside, ""))
		u.take(sequence(inside))
		n.Parts = u.pieces(inside + 1)
	case api.Extensible:
		n.Rule = u.takeIfThere(inside, tagRule)
		n.Desc = u.takeIfThere(inside, tagDesc)
		n.Value = u.take(tagged(inside, tagValue, ""))
		n.DNAttrs = u.flag(tagged(inside, tagDNAttrs, ""))
	}
}

func (u *unpacker) pieces(depth int) api.Pattern {
	p := api.Pattern{Initial: u.takeIfThere(depth, tagInitial)}
	for piece := u.takeIfThere(depth, tagAny); piece != ""; piece = u.takeIfThere(depth, tagAny) {
		p.Any = append(p.Any, piece)
	}
	p.Final = u.takeIfThere(depth, tagFinal)
	return p
}

// flag reads the boolean of this shape; false, if it isn't there.
func (u *unpacker) flag(shape api.Node) bool {
	if !u.stands(shape) {
		return false
	}
	v, err := ber.Bool(u.take(shape))
	if err != api.OK {
		refuse(u.next)
	}
	return v
}

// takeIfThere reads the content of an element that may be missing; where it isn't, it has a byte at least.
func (u *unpacker) takeIfThere(depth, tag int) string {
	shape := tagged(depth, tag, "")
	if !u.stands(shape) {
		return ""
	}
	body := u.take(shape)
	if body == "" {
		refuse(u.next)
	}
	return body
}

// take reads the content of the next element, which must be of this shape.
func (u *unpacker) take(shape api.Node) string {
	if !u.stands(shape) {
		refuse(u.next)
	}
	u.next++
	return u.elements[u.next-1].Body
}

// stands tells whether the next element is of this shape: like it but for the content.
func (u *unpacker) stands(shape api.Node) bool {
	if u.next == len(u.elements) {
		return false
	}
	e := u.elements[u.next]
	e.Body = ""
	return e == shape
}

// inside tells whether the next element stands in the last one that was begun at this depth.
func (u *unpacker) inside(depth int) bool {
	return u.next < len(u.elements) && u.elements[u.next].Depth > depth
}
