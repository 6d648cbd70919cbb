package filter

import (
	"roster/api"
	"roster/ber"
)

// tooDeep tells whether an element stands deeper than any is written.
func tooDeep(e api.Node) bool { return e.Depth > api.MaxNest }

// packed are the elements of a filter, in their order.
func packed(f api.Filter) []api.Node {
	var p packer
	for _, n := range f {
		p.node(n)
	}
	return p.elements
}

// packer is a row of elements that grows.
type packer struct {
	elements []api.Node
}

func (p *packer) put(elements ...api.Node) {
	p.elements = append(p.elements, elements...)
}

// putFilled leaves out what isn't there.
func (p *packer) putFilled(e api.Node) {
	if e.Body != "" {
		p.put(e)
	}
}

// node puts a node's element and what it contains, but for the kids: they are nodes of their own.
func (p *packer) node(n api.FilterNode) {
	e, inside := outer(n), n.Depth+1
	switch n.Op {
	case api.Present:
		e.Body = n.Desc
		fallthrough
	case api.And, api.Or, api.Not:
		p.put(e)
	case api.Equality, api.AtLeast, api.AtMost, api.Approx:
		p.put(e, octets(inside, n.Desc), octets(inside, n.Value))
	case api.Substrings:
		p.put(e, octets(inside, n.Desc), sequence(inside))
		p.pieces(inside+1, n.Parts)
	case api.Extensible:
		p.put(e)
		p.assertion(inside, n)
	}
}

func (p *packer) pieces(depth int, parts api.Pattern) {
	p.putFilled(tagged(depth, tagInitial, parts.Initial))
	for _, piece := range parts.Any {
		p.put(tagged(depth, tagAny, piece))
	}
	p.putFilled(tagged(depth, tagFinal, parts.Final))
}

func (p *packer) assertion(depth int, n api.FilterNode) {
	p.putFilled(tagged(depth, tagRule, n.Rule))
	p.putFilled(tagged(depth, tagDesc, n.Desc))
	p.put(tagged(depth, tagValue, n.Value))
	if n.DNAttrs {
		p.put(tagged(depth, tagDNAttrs, ber.PutBool(true)))
	}
}
