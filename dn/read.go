package dn

import (
	"slices"
	"strings"

	"roster/api"
	"roster/attr"
	"roster/ber"
	"roster/text"
)

// reader is a name's text, which is UTF-8 and not empty, and how far it is read.
type reader struct {
	source string
	place  int
}

// name reads all parts.
func (r *reader) name() (api.DN, error) {
	var d api.DN
	for {
		part, err := r.part(len(d))
		if err != nil {
			return nil, err
		}
		d = append(d, part)
		if !r.take(',') {
			return d, nil
		}
	}
}

// part reads the pairs of the part of this number. It stops at a comma or at the text's end, as nothing else stands behind a value.
func (r *reader) part(number int) (api.RDN, error) {
	var part api.RDN
	var types []string // the canonical ones of its pairs
	for {
		r.skipSpaces()
		if number == api.MaxParts || len(part) == api.MaxPairs {
			return nil, refusal{ErrWide, r.place}
		}
		typ, canonical, err := r.pairType(types)
		if err != nil {
			return nil, err
		}
		value, err := r.pairValue()
		if err != nil {
			return nil, err
		}
		part = append(part, api.AVA{Type: typ, Value: value})
		types = append(types, canonical)
		if !r.take('+') {
			return part, nil
		}
	}
}

// pairType reads a pair's type and its equals sign; ahead are the canonical types of the part's pairs ahead of it.
func (r *reader) pairType(ahead []string) (typ, canonical string, err error) {
	begin := r.place
	typ = r.row(typeByte)
	canonical, fault, _ := attr.ParseType(typ)
	if fault != api.OK {
		return "", "", refusal{ErrType, begin}
	}
	if slices.Contains(ahead, canonical) {
		return "", "", refusal{ErrTwice, begin}
	}
	r.skipSpaces()
	if !r.take('=') {
		return "", "", refusal{ErrEquals, r.place}
	}
	r.skipSpaces()
	return typ, canonical, nil
}

// pairValue reads a value and the spaces behind it.
func (r *reader) pairValue() (string, error) {
	begin := r.place
	read := r.textValue
	if r.take('#') {
		read = r.hexValue
	}
	value, err := read()
	if err != nil {
		return "", err
	}
	if fault, _ := text.Check(value); fault != api.OK {
		return "", refusal{ErrUTF8, begin}
	}
	return value, nil
}

// hexValue reads the value whose # has just been taken.
func (r *reader) hexValue() (string, error) {
	sign := r.place - 1
	value, ok := textOfElement(r.row(hexDigit))
	if !ok {
		return "", refusal{ErrHex, sign}
	}
	r.skipSpaces()
	if kindOf(r.rest()) != ending {
		return "", refusal{ErrChar, r.place}
	}
	return value, nil
}

// textOfElement is the content of the element that the hex digits say, if it is one whose content is a text.
func textOfElement(digits string) (string, bool) {
	bytes, err, _ := text.Unhex(digits)
	if err != api.OK {
		return "", false
	}
	nodes, err, _ := ber.Tree(bytes)
	if err != api.OK || len(nodes) != 1 || nodes[0].Made || nodes[0].Class != api.Universal {
		return "", false
	}
	switch nodes[0].Tag {
	case api.TagOctets, api.TagUTF8, api.TagPrint, api.TagIA5:
		return nodes[0].Body, true
	}
	return "", false
}

// textValue reads a value that is written as it is, or escaped.
func (r *reader) textValue() (string, error) {
	var value []byte
	counted := 0 // the bytes of value that count, even if nothing but spaces follows
	for {
		switch kindOf(r.rest()) {
		case ending:
			return string(value[:counted]), nil
		case lame:
			return "", refusal{ErrEscape, r.place}
		case barred:
			return "", refusal{ErrChar, r.place}
		case coded:
			code, _, _ := text.Unhex(r.source[r.place+1 : r.place+3])
			value = append(value, code...)
			counted = len(value)
			r.place += 3
		case escaped:
			r.place++
			fallthrough
		case plain:
			counted = len(value) + 1
			fallthrough
		case space:
			value = append(value, r.source[r.place])
			r.place++
		}
	}
}

// kind says what a value that isn't behind a # goes on with. An escaped byte is a plain one with a backslash ahead of it, and a plain one a space that counts.
type kind int

const (
	ending  kind = iota // nothing: here it ends
	lame                // a backslash with nothing right behind it
	barred              // a byte that can't stand there unescaped
	coded               // a backslash and two hex digits
	escaped             // a backslash and a byte that means itself
	plain               // a byte that means itself
	space               // a byte that means itself, unless the value ends with it
)

func kindOf(rest string) kind {
	if rest == "" {
		return ending
	}
	switch rest[0] {
	case ',', '+':
		return ending
	case '\\':
		return kindBehind(rest[1:])
	case 0, '"', ';', '<', '>':
		return barred
	case ' ':
		return space
	}
	return plain
}

// kindBehind is the kind of a backslash with this behind it.
func kindBehind(rest string) kind {
	switch {
	case rest != "" && strings.IndexByte(`\"+,;<>#= `, rest[0]) >= 0:
		return escaped
	case len(rest) >= 2 && hexDigit(rest[0]) && hexDigit(rest[1]):
		return coded
	}
	return lame
}

func (r *reader) rest() string { return r.source[r.place:] }

// take takes the byte, if it stands here.
func (r *reader) take(b byte) bool {
	if r.place == len(r.source) || r.source[r.place] != b {
		return false
	}
	r.place++
	return true
}

// row takes the longest row of such bytes that stands here.
func (r *reader) row(such func(b byte) bool) string {
	begin := r.place
	for r.place < len(r.source) && such(r.source[r.place]) {
		r.place++
	}
	return r.source[begin:r.place]
}

func (r *reader) skipSpaces() {
	r.row(func(b byte) bool { return b == ' ' })
}

func digit(b byte) bool { return '0' <= b && b <= '9' }

func typeByte(b byte) bool {
	return 'a' <= b && b <= 'z' || 'A' <= b && b <= 'Z' || digit(b) || b == '-' || b == '.'
}

func hexDigit(b byte) bool {
	return digit(b) || 'a' <= b && b <= 'f' || 'A' <= b && b <= 'F'
}
