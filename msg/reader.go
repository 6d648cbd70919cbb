package msg

import (
	"roster/api"
	"roster/ber"
	"roster/filter"
	"roster/text"
)

// reader is what is left to read of an element's content. It gives up at the first thing that the grammar doesn't name there.
type reader struct {
	left string
}

// message is the content of a message.
func message(s string) *reader {
	// Once the tree is sound, so are the elements of every content that the grammar goes into.
	if _, err, _ := ber.Tree(s); err != api.OK {
		refuse()
	}
	r := reader{s}
	return r.take(sequence)
}

// whole reads a content of which nothing may be left.
func whole[T any](r *reader, read func(*reader) T) T {
	v := read(r)
	r.end()
	return v
}

// each reads a content that is any number of elements with this first byte.
func each[T any](list *reader, first byte, read func(*reader) T) []T {
	var out []T
	for list.left != "" {
		out = append(out, whole(list.take(first), read))
	}
	return out
}

func (r *reader) end() {
	if r.left != "" {
		refuse()
	}
}

// first is the first byte of the next element, which must be there.
func (r *reader) first() byte {
	if r.left == "" {
		refuse()
	}
	return r.left[0]
}

// stands tells whether an element with this first byte is the next one.
func (r *reader) stands(first byte) bool {
	return r.left != "" && r.left[0] == first
}

// take is the content of the next element, which must have this first byte.
func (r *reader) take(first byte) *reader {
	if !r.stands(first) {
		refuse()
	}
	_, content := r.next()
	return &reader{content}
}

// next passes over the next element, whichever it is.
func (r *reader) next() (element, content string) {
	h, err := ber.Head(r.left)
	if err != api.OK {
		refuse()
	}
	end := h.Size + h.Length
	element = r.left[:end]
	r.left = r.left[end:]
	return element, element[h.Size:]
}

func (r *reader) filter() api.Filter {
	element, _ := r.next()
	f, err := filter.Decode(element)
	if err != api.OK {
		refuse()
	}
	return f
}

// What a content means that isn't made of elements.

func (r *reader) bytes() string {
	s := r.left
	r.left = ""
	return s
}

func (r *reader) utf() string {
	return utf(r.bytes())
}

func (r *reader) number(least, most int) int {
	n, err := ber.Int(r.bytes())
	if err != api.OK || n < int64(least) || n > int64(most) {
		refuse()
	}
	return int(n)
}

func (r *reader) flag() bool {
	v, err := ber.Bool(r.bytes())
	if err != api.OK {
		refuse()
	}
	return v
}

// utf is the text itself, which must be UTF-8.
func utf(s string) string {
	if err, _ := text.Check(s); err != api.OK {
		refuse()
	}
	return s
}
