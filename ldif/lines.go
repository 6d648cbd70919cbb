package ldif

import (
	"iter"
	"strings"

	"roster/api"
)

// physical gives the physical lines of s, each with its number and without its line end.
func physical(s string) iter.Seq2[int, string] {
	return func(yield func(int, string) bool) {
		number, begin := 1, 0
		// Runes say what bytes would: no byte above 127 gives the rune of a line feed.
		for place, r := range s {
			if r != '\n' {
				continue
			}
			if !yield(number, strings.TrimSuffix(s[begin:place], "\r")) {
				return
			}
			number, begin = number+1, place+1
		}
		if begin < len(s) {
			yield(number, s[begin:])
		}
	}
}

// endOf is the number of the end of s.
func endOf(s string) int {
	end := 1
	for number := range physical(s) {
		end = number + 1
	}
	return end
}

// unfold gives the logical lines of s, or its fault.
func unfold(s string) ([]api.Line, api.Fault) {
	var j joiner
	// Nothing stands ahead of the first line, so it can no more go on than one behind a blank line.
	ahead := ""
	for number, line := range physical(s) {
		rest, goesOn := strings.CutPrefix(line, " ")
		switch {
		case strings.Contains(line, "\r"):
			return nil, api.Fault{Err: api.ErrReturn, Line: number}
		case goesOn && ahead == "":
			return nil, api.Fault{Err: api.ErrFold, Line: number}
		case goesOn:
			j.goOn(rest)
		default:
			j.begin(number, line)
		}
		ahead = line
	}
	return j.all(), api.Fault{}
}

// joiner makes logical lines out of physical ones. The last line's text is kept apart until it is whole: to join it piece by piece as a string would copy it each time.
type joiner struct {
	lines []api.Line
	last  []byte
}

func (j *joiner) begin(number int, text string) {
	j.lines = append(j.all(), api.Line{Number: number})
	j.last = append(j.last[:0], text...)
}

func (j *joiner) goOn(rest string) {
	j.last = append(j.last, rest...)
}

// all is the lines so far, the last one as long as it is by now.
func (j *joiner) all() []api.Line {
	if n := len(j.lines); n > 0 {
		j.lines[n-1].Text = string(j.last)
	}
	return j.lines
}

// writeFolded writes a logical line in physical ones.
func writeFolded(out *strings.Builder, line string, width int) {
	end := min(width, len(line))
	out.WriteString(line[:end])
	for rest := line[end:]; rest != ""; rest = rest[end:] {
		end = min(width-1, len(rest))
		out.WriteString("\n ")
		out.WriteString(rest[:end])
	}
	out.WriteByte('\n')
}
