package filter

import "roster/api"

// The tags of the pieces in a Substrings' sequence.
const (
	tagInitial = iota
	tagAny
	tagFinal
)

// The tags of what an Extensible contains.
const (
	tagRule = 1 + iota
	tagDesc
	tagValue
	tagDNAttrs
)

// outer is the element of a node, without what it contains.
func outer(n api.FilterNode) api.Node {
	return api.Node{Depth: n.Depth, Class: api.Context, Made: n.Op != api.Present, Tag: int(n.Op)}
}

func octets(depth int, body string) api.Node {
	return api.Node{Depth: depth, Class: api.Universal, Tag: api.TagOctets, Body: body}
}

func sequence(depth int) api.Node {
	return api.Node{Depth: depth, Class: api.Universal, Made: true, Tag: api.TagSequence}
}

// tagged is a piece of a Substrings, or one of the elements in an Extensible.
func tagged(depth, tag int, body string) api.Node {
	return api.Node{Depth: depth, Class: api.Context, Tag: tag, Body: body}
}
