package filter

import (
	"iter"
	"slices"

	"roster/api"
)

// sameNode tells whether two nodes have the same fields.
func sameNode(n, m api.FilterNode) bool {
	return n.Depth == m.Depth && n.Op == m.Op && n.Desc == m.Desc && n.Value == m.Value &&
		samePattern(n.Parts, m.Parts) && n.Rule == m.Rule && n.DNAttrs == m.DNAttrs
}

func samePattern(p, q api.Pattern) bool {
	return p.Initial == q.Initial && slices.Equal(p.Any, q.Any) && p.Final == q.Final
}

// moved is a copy of the nodes that shares no memory with them, each so much deeper.
func moved(f api.Filter, by int) api.Filter {
	out := make(api.Filter, 0, len(f))
	for _, n := range f {
		out = append(out, placed(n, n.Depth+by))
	}
	return out
}

// placed is such a copy of one node, at that depth.
func placed(n api.FilterNode, depth int) api.FilterNode {
	n.Depth = depth
	n.Parts.Any = append([]string(nil), n.Parts.Any...)
	return n
}

// beneath gives the kids of the first node, each with all that it holds, as stretches of the list itself.
func beneath(f api.Filter) iter.Seq[api.Filter] {
	return func(yield func(api.Filter) bool) {
		for begin := 1; begin < len(f); {
			end := begin + 1
			for end < len(f) && f[end].Depth > f[begin].Depth {
				end++
			}
			if !yield(f[begin:end]) {
				return
			}
			begin = end
		}
	}
}

// above is what the Nots over a node make of it.
type above struct {
	turned  bool // an odd number of them
	dropped int  // so many are not in the answer
}

// pushed is the filter with every Not dropped, and one put over each item that an odd number of them stood over. So no node gets deeper.
func pushed(f api.Filter) api.Filter {
	var out api.Filter
	var over [api.MaxFilter + 1]above // by depth: for what the last node there holds
	for _, n := range f {
		a := over[n.Depth-1]
		depth := n.Depth - a.dropped
		switch {
		case n.Op == api.Not:
			a = above{!a.turned, a.dropped + 1}
		case holds(n.Op):
			out = append(out, api.FilterNode{Depth: depth, Op: turnedOp(n.Op, a.turned)})
		case a.turned:
			out = append(out, api.FilterNode{Depth: depth, Op: api.Not})
			depth++
			fallthrough
		default:
			out = append(out, placed(n, depth))
		}
		over[n.Depth] = a
	}
	return out
}

// turnedOp is And or Or: itself, or the other one.
func turnedOp(op api.FilterOp, turned bool) api.FilterOp {
	switch {
	case !turned:
		return op
	case op == api.And:
		return api.Or
	}
	return api.And
}
