package change

import (
	"slices"
	"strings"

	"roster/api"
	"roster/attr"
	"roster/ldif"
	"roster/text"
)

// recordsOf cuts a text into the lines of its records, without the comments; each has a line at least.
func recordsOf(s string) ([][]api.Line, api.Fault) {
	lines, err, number := ldif.Lines(s)
	if err != api.OK {
		return nil, api.Fault{Err: err, Line: number}
	}
	lines = skipBlank(slices.DeleteFunc(lines, isComment))
	if len(lines) == 0 {
		return nil, api.Fault{Err: api.ErrVersion, Line: endOf(s)}
	}
	if !isVersion(lines[0].Text) {
		return nil, api.Fault{Err: api.ErrVersion, Line: lines[0].Number}
	}
	lines = skipBlank(lines[1:])
	if len(lines) == 0 {
		return nil, api.Fault{Err: api.ErrBegin, Line: endOf(s)}
	}
	var records [][]api.Line
	for len(lines) > 0 {
		end := slices.IndexFunc(lines, isBlank)
		if end < 0 {
			end = len(lines)
		}
		records = append(records, lines[:end])
		lines = skipBlank(lines[end:])
	}
	return records, api.Fault{}
}

func isComment(line api.Line) bool { return strings.HasPrefix(line.Text, "#") }

func isBlank(line api.Line) bool { return line.Text == "" }

func skipBlank(lines []api.Line) []api.Line {
	for len(lines) > 0 && isBlank(lines[0]) {
		lines = lines[1:]
	}
	return lines
}

// endOf is the number of the end of s.
func endOf(s string) int {
	end := strings.Count(s, "\n") + 1
	if s != "" && !strings.HasSuffix(s, "\n") {
		end++
	}
	return end
}

func isVersion(line string) bool {
	rest, ok := behind(line, "version")
	return ok && skipFill(rest) == "1"
}

// behind is what stands behind the first ":" of a line; false: the line doesn't have this word.
func behind(line, word string) (string, bool) {
	ahead, rest, found := strings.Cut(line, ":")
	return rest, found && text.Fold(ahead) == word
}

func skipFill(s string) string { return strings.TrimLeft(s, " ") }

// readValue gives the value of a value's text.
func readValue(s string) (string, api.Errno) {
	if strings.HasPrefix(s, "<") {
		return "", api.ErrURL
	}
	if written, found := strings.CutPrefix(s, ":"); found {
		value, err, _ := text.Unbase64(skipFill(written))
		if err != api.OK {
			return "", api.ErrValue
		}
		return value, api.OK
	}
	value := skipFill(s)
	if !text.Safe(value) {
		return "", api.ErrValue
	}
	return value, api.OK
}

// attribute is what an attribute line has: a description as it is written and in its canonical form, and a value's text.
type attribute struct {
	desc, canonical, value string
}

// attributeOf takes an attribute line apart; false: it is none.
func attributeOf(line string) (attribute, bool) {
	desc, value, found := strings.Cut(line, ":")
	canonical, ok := canonicalOf(desc)
	return attribute{desc, canonical, value}, found && ok
}

// canonicalOf is the canonical form of a description's text; false: it is none, or one that no attribute line has.
func canonicalOf(desc string) (string, bool) {
	canonical, err, _ := attr.Canonical(desc)
	return canonical, err == api.OK && text.Fold(desc) != "dn"
}

// isIdentifier goes by the texts of types: those of digits and points alone are the identifiers.
func isIdentifier(s string) bool {
	_, err, _ := attr.ParseType(s)
	return err == api.OK && strings.Trim(s, "0123456789.") == ""
}
