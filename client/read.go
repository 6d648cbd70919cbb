package client

import (
	"strings"

	"roster/api"
	"roster/text"
)

// blanks are the bytes that may stand ahead of a comment.
const blanks = "\t\n\v\f\r "

// fault is why a line is refused, and at which place; the zero fault: it isn't.
type fault struct {
	err api.Errno
	at  int
}

// field is a row of bytes of a line that are not spaces, and its place.
type field struct {
	text string
	at   int
}

// read is the request that a line asks for; with a fault the zero request.
func read(line string) (api.Request, fault) {
	if saysNothing(line) {
		return api.Request{}, fault{api.ErrNothing, 0}
	}
	all := fieldsOf(line)
	first, others := all[0], all[1:]
	row, known := commandOf(text.Fold(first.text))
	if !known {
		return api.Request{}, fault{api.ErrCommand, first.at}
	}
	given, f := row.read(others)
	switch {
	case f.err != api.OK:
		return api.Request{}, f
	case len(others) < row.needed:
		return api.Request{}, fault{api.ErrCommand, len(line)}
	}
	return row.request(given), fault{}
}

// saysNothing tells whether a line is blank or a comment.
func saysNothing(line string) bool {
	rest := strings.TrimLeft(line, blanks)
	return rest == "" || strings.HasPrefix(rest, "#")
}

// fieldsOf is one field at least, if the line has more than spaces.
func fieldsOf(line string) []field {
	var fields []field
	at := 0
	for _, row := range strings.Split(line, " ") {
		if row != "" {
			fields = append(fields, field{row, at})
		}
		at += len(row) + len(" ")
	}
	return fields
}

// read reads the fields behind the word, up to the first fault.
func (c command) read(fields []field) ([]meaning, fault) {
	given := make([]meaning, len(c.arguments))
	for number, x := range fields {
		if number == len(given) {
			return nil, fault{api.ErrCommand, x.at}
		}
		meant, f := c.arguments[number].read(x.text)
		if f.err != api.OK {
			return nil, fault{f.err, x.at + f.at}
		}
		meant.there = true
		given[number] = meant
	}
	return given, fault{}
}
