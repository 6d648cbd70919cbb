package filter

import (
	"strings"

	"roster/api"
	"roster/attr"
	"roster/text"
)

// signs are what stands ahead of a node's value or pieces, by its Op.
var signs = [...]string{"&", "|", "!", "=", "=", ">=", "<=", "=*", "~=", ":="}

// textless tells whether a filter's node has no text.
func textless(n api.FilterNode) bool {
	return !descPrints(n) || !rulePrints(n.Rule)
}

func descPrints(n api.FilterNode) bool {
	if holds(n.Op) || n.Op == api.Extensible && n.Desc == "" {
		return true
	}
	_, err, _ := attr.Parse(n.Desc)
	return err == api.OK
}

// rulePrints tells whether a rule can be told from nothing and from the sign of DNAttrs.
func rulePrints(rule string) bool {
	if rule == "" {
		return true
	}
	_, err, _ := attr.ParseType(rule)
	return err == api.OK && !isDN(rule)
}

// printed is the text of a filter that has one.
func printed(f api.Filter) string {
	var out strings.Builder
	open := 0
	for _, n := range f {
		closeTo(&out, open, n.Depth-1)
		out.WriteByte('(')
		writeNode(&out, n)
		open = n.Depth
	}
	closeTo(&out, open, 0)
	return out.String()
}

// closeTo ends all filters that are open beyond this depth.
func closeTo(out *strings.Builder, open, depth int) {
	for range open - depth {
		out.WriteByte(')')
	}
}

// writeNode writes one node without what it holds. What its Op doesn't ask for is empty, and so is its text.
func writeNode(out *strings.Builder, n api.FilterNode) {
	out.WriteString(n.Desc)
	if n.DNAttrs {
		out.WriteString(":dn")
	}
	if n.Rule != "" {
		out.WriteByte(':')
		out.WriteString(n.Rule)
	}
	out.WriteString(signs[n.Op])
	writeValue(out, n.Value)
	if n.Op == api.Substrings {
		writePieces(out, n.Parts)
	}
}

func writePieces(out *strings.Builder, p api.Pattern) {
	writeValue(out, p.Initial)
	for _, piece := range p.Any {
		out.WriteByte('*')
		writeValue(out, piece)
	}
	out.WriteByte('*')
	writeValue(out, p.Final)
}

func writeValue(out *strings.Builder, value string) {
	// Bytes, not runes: every byte of a longer sequence is escaped.
	for place := range len(value) {
		if b := value[place]; stands(b) && ' ' <= b && b <= '~' {
			out.WriteByte(b)
		} else {
			out.WriteByte('\\')
			out.WriteString(text.Hex(value[place : place+1]))
		}
	}
}
