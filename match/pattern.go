package match

import (
	"strings"

	"roster/api"
	"roster/text"
)

// normalPattern is a pattern with its pieces in their normal form; false, if no value of the syntax can be asked for it.
func normalPattern(own syntax, p api.Pattern) (api.Pattern, bool) {
	if p.Initial == "" && p.Final == "" && len(p.Any) == 0 {
		return api.Pattern{}, false
	}
	initial, begins := own.piece(p.Initial, atFront)
	final, ends := own.piece(p.Final, atEnd)
	if !begins || !ends {
		return api.Pattern{}, false
	}
	out := api.Pattern{Initial: initial, Any: make([]string, len(p.Any)), Final: final}
	for i, inner := range p.Any {
		piece, ok := own.piece(inner, inside)
		if !ok {
			return api.Pattern{}, false
		}
		out.Any[i] = piece
	}
	return out, true
}

// readPattern reads the text of a pattern. One without a piece is left to normalPattern, which refuses it.
func readPattern(s string) (api.Pattern, bool) {
	pieces := strings.Split(s, "*")
	last := len(pieces) - 1
	if last == 0 {
		return api.Pattern{}, false
	}
	for i, written := range pieces {
		piece, ok := unescape(written, "*")
		if !ok || piece == "" && i > 0 && i < last {
			return api.Pattern{}, false
		}
		pieces[i] = piece
	}
	return api.Pattern{Initial: pieces[0], Any: pieces[1:last], Final: pieces[last]}, true
}

// unescape tells what a text means in which the sign and the backslash are written as a backslash and two hex digits; false, if another backslash stands there.
func unescape(s, sign string) (string, bool) {
	var out strings.Builder
	for {
		front, behind, escaped := strings.Cut(s, `\`)
		out.WriteString(front)
		if !escaped {
			return out.String(), true
		}
		if len(behind) < 2 {
			return "", false
		}
		meant, err, _ := text.Unhex(behind[:2])
		if err != api.OK || meant != sign && meant != `\` {
			return "", false
		}
		out.WriteString(meant)
		s = behind[2:]
	}
}
