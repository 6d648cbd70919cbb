package ldif

import (
	"iter"
	"strings"

	"roster/api"
	"roster/attr"
	"roster/text"
)

// kind is what a line is by its place in the text.
type kind int

const (
	versionLine   kind = iota
	firstName          // of the first record: there must be one
	nextName           // of any other record
	secondLine         // of a record: there must be one
	attributeLine      // any further line of a record
)

// changeWords stand in the second line of records that tell changes.
var changeWords = [...]string{"changetype", "control"}

// reader reads lines one by one: next is the kind of the line that comes, record what has been read of the record at hand.
type reader struct {
	next   kind
	record api.Record
}

// read gives the records of s one by one; and behind them, without a record, the fault at which the reading came to a halt, if there is one.
func read(s string) iter.Seq2[api.Record, api.Fault] {
	return func(yield func(api.Record, api.Fault) bool) {
		lines, fault := unfold(s)
		if fault.Err == api.OK {
			fault = readLines(lines, endOf(s), yield)
		}
		if fault.Err != api.OK {
			yield(api.Record{}, fault)
		}
	}
}

// readLines hands on the records that the lines tell, till it is stopped, and answers the fault that it met.
func readLines(lines []api.Line, end int, yield func(api.Record, api.Fault) bool) api.Fault {
	var r reader
reading:
	for _, line := range lines {
		switch {
		case strings.HasPrefix(line.Text, "#"):
			continue reading
		case line.Text != "":
			if err := r.take(line); err != api.OK {
				return api.Fault{Err: err, Line: line.Number}
			}
		case r.next == secondLine:
			// The record is over too early, as it may be at the end.
			break reading
		case r.next == attributeLine:
			r.next = nextName
			if !yield(r.record, api.Fault{}) {
				return api.Fault{}
			}
		}
	}
	switch r.next {
	case versionLine:
		return api.Fault{Err: api.ErrVersion, Line: end}
	case firstName:
		return api.Fault{Err: api.ErrBegin, Line: end}
	case secondLine:
		return api.Fault{Err: api.ErrBare, Line: r.record.Line}
	case attributeLine:
		yield(r.record, api.Fault{})
	}
	return api.Fault{}
}

// take reads a line that is neither blank nor a comment.
func (r *reader) take(line api.Line) api.Errno {
	word, rest, found := strings.Cut(line.Text, ":")
	if !found {
		word = "" // which no line may begin with
	}
	if err := wordFault(word, r.next); err != api.OK {
		return err
	}
	value, err := readValue(rest)
	switch r.next {
	case versionLine:
		if skipFill(rest) != "1" {
			return api.ErrVersion
		}
		r.next = firstName
	case firstName, nextName:
		if err != api.OK {
			return api.ErrNameSpec
		}
		r.record = api.Record{Line: line.Number, Name: value}
		r.next = secondLine
	default:
		if err != api.OK {
			return err
		}
		r.record.Pairs = append(r.record.Pairs, api.Pair{Desc: word, Value: value})
		r.next = attributeLine
	}
	return api.OK
}

// wordFault tells why a line of that kind can't have word ahead of its first ":".
func wordFault(word string, k kind) api.Errno {
	folded := text.Fold(word)
	switch k {
	case versionLine:
		if folded != "version" {
			return api.ErrVersion
		}
	case firstName, nextName:
		if folded != "dn" {
			return api.ErrBegin
		}
	case secondLine:
		if tellsChange(folded) {
			return api.ErrChange
		}
		fallthrough
	case attributeLine:
		if _, err, _ := attr.Parse(word); err != api.OK || folded == "dn" {
			return api.ErrLine
		}
	}
	return api.OK
}

func tellsChange(folded string) bool {
	for _, word := range changeWords {
		if folded == word {
			return true
		}
	}
	return false
}

// readValue gives the value of a value's text.
func readValue(s string) (string, api.Errno) {
	inBase64 := false
	switch {
	case strings.HasPrefix(s, "<"):
		return "", api.ErrURL
	case strings.HasPrefix(s, ":"):
		inBase64 = true
		s = s[1:]
		fallthrough
	default:
		s = skipFill(s)
	}
	if inBase64 {
		return decode(s)
	}
	if !text.Safe(s) {
		return "", api.ErrValue
	}
	return s, api.OK
}

func decode(s string) (string, api.Errno) {
	value, err, _ := text.Unbase64(s)
	if err != api.OK {
		return "", api.ErrValue
	}
	return value, api.OK
}

func skipFill(s string) string {
	return strings.TrimLeft(s, " ")
}
