package filter

import (
	"slices"

	"roster/api"
	"roster/text"
)

// holds tells whether nodes of this kind hold others.
func holds(op api.FilterOp) bool {
	return op == api.And || op == api.Or || op == api.Not
}

// checker goes through a list's nodes, and remembers at which depths the last one was a Not.
type checker struct {
	nots [api.MaxFilter + 1]bool
}

// look tells what is wrong with the node of this number, if nothing is with those ahead of it.
func (c *checker) look(f api.Filter, number int) api.Errno {
	n := f[number]
	var ahead api.FilterNode // the zero node is an And of Depth 0, and may hold the first
	if number > 0 {
		ahead = f[number-1]
	}
	switch {
	case !follows(n, ahead):
		return api.ErrFilter
	case n.Depth > api.MaxFilter:
		return api.ErrDeep
	case !sound(n):
		return api.ErrFilter
	case c.nots[n.Depth-1] && n.Depth <= ahead.Depth:
		// A Not's first kid stands right behind it: this is another one.
		return api.ErrFilter
	case n.Op == api.Not && (number+1 == len(f) || f[number+1].Depth != n.Depth+1):
		return api.ErrFilter
	}
	c.nots[n.Depth] = n.Op == api.Not
	return api.OK
}

// follows tells whether a node's Depth may stand behind that of the one ahead.
func follows(n, ahead api.FilterNode) bool {
	if n.Depth == ahead.Depth+1 {
		return holds(ahead.Op)
	}
	return 2 <= n.Depth && n.Depth <= ahead.Depth
}

// sound tells whether a node has what its Op asks for, and nothing else.
func sound(n api.FilterNode) bool {
	if n.Op < api.And || n.Op > api.Extensible {
		return false
	}
	switch {
	case n.Op == api.Extensible && n.Desc == "" && n.Rule == "":
		return false
	case n.Op == api.Substrings && (noPiece(n.Parts) || slices.Contains(n.Parts.Any, "")):
		return false
	}
	return isUTF8(n.Desc) && isUTF8(n.Rule) && empty(withoutAsked(n))
}

// withoutAsked is the node without the fields that its Op asks for: each kind of item asks for what the one behind it asks for, and more.
func withoutAsked(n api.FilterNode) api.FilterNode {
	switch n.Op {
	case api.Extensible:
		n.Rule, n.DNAttrs = "", false
		fallthrough
	case api.Equality, api.AtLeast, api.AtMost, api.Approx:
		n.Value = ""
		fallthrough
	case api.Present:
		n.Desc = ""
	case api.Substrings:
		n.Desc, n.Parts = "", api.Pattern{}
	}
	return n
}

func empty(n api.FilterNode) bool {
	return n.Desc == "" && n.Value == "" && noPiece(n.Parts) && n.Rule == "" && !n.DNAttrs
}

func noPiece(p api.Pattern) bool {
	return p.Initial == "" && len(p.Any) == 0 && p.Final == ""
}

func isUTF8(s string) bool {
	err, _ := text.Check(s)
	return err == api.OK
}
