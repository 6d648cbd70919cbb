package ber

import (
	"iter"

	"roster/api"
)

const (
	tagMask    = 0x1F // of a tag byte: the tag; all of it set would begin a longer tag
	madeBit    = 0x20 // of a tag byte: its content is elements
	classShift = 6    // of a tag byte: the class stands above
	longMark   = 0x80 // of a length byte: as many bytes of length follow as its other bits say
	longBytes  = 4    // at most so many
)

// fault is what a reader gives up with by a panic, however deep it stands.
type fault struct {
	err api.Errno
	at  int
}

// caught runs read and answers the fault with which it gave up, or the zero fault.
func caught(read func()) (f fault) {
	defer func() { f = ended(recover()) }()
	read()
	return fault{}
}

// ended is the fault that was recovered, the zero fault if nothing was; a panic of any other kind goes on.
func ended(recovered any) fault {
	switch r := recovered.(type) {
	case nil:
		return fault{}
	case fault:
		return r
	default:
		panic(r)
	}
}

// stretch is the bytes, up to end, in which an element stands; missing is the error if it isn't there whole.
type stretch struct {
	text    string
	end     int
	missing api.Errno
}

// all is the stretch of an element that nothing holds.
func all(text string) stretch {
	return stretch{text, len(text), api.ErrShort}
}

// need gives up unless n bytes stand from p on.
func (s stretch) need(p, n int) {
	if n > s.end-p {
		panic(fault{s.missing, s.end})
	}
}

// header reads the header at p; whether the content is there is not asked.
func (s stretch) header(p int) api.Header {
	s.need(p, 1)
	first := s.text[p]
	if first&tagMask == tagMask {
		panic(fault{api.ErrTag, p})
	}
	length, size := s.length(p)
	return api.Header{
		Class:  api.Class(first >> classShift),
		Made:   first&madeBit != 0,
		Tag:    int(first & tagMask),
		Length: length,
		Size:   size,
	}
}

// length reads the length of the header at p, and answers the header's size with it.
func (s stretch) length(p int) (length, size int) {
	s.need(p, 2)
	first := int(s.text[p+1])
	switch {
	case first < longMark:
		return first, 2
	case first == longMark:
		panic(fault{api.ErrIndefinite, p + 1})
	case first > longMark+longBytes:
		panic(fault{api.ErrLength, p + 1})
	}
	size = 2 + first - longMark
	s.need(p, size)
	for q := p + 2; q < p+size; q++ {
		length = length<<8 | int(s.text[q])
	}
	return length, size
}

// whole reads the header at p of an element whose content is there too.
func (s stretch) whole(p int) api.Header {
	h := s.header(p)
	s.need(p, h.Size+h.Length)
	return h
}

// element is an element that was read: its place is told beside it.
type element struct {
	api.Header
	depth int
}

// end is the place behind the element that begins at p.
func (e element) end(p int) int { return p + e.Size + e.Length }

func (e element) content(text string, p int) string { return text[p+e.Size : e.end(p)] }

func (e element) node(text string, p int) api.Node {
	n := api.Node{Depth: e.depth, Class: e.Class, Made: e.Made, Tag: e.Tag}
	if !e.Made {
		n.Body = e.content(text, p)
	}
	return n
}

// elements gives the elements of b, one whole element, with their places, each ahead of those that it holds. At a fault it panics.
func elements(b string) iter.Seq2[int, element] {
	return func(yield func(int, element) bool) { walk(all(b), 0, 1, yield) }
}

// walk shows the element at p and all that it holds; it answers where the element ends, and whether more is wished.
func walk(s stretch, p, depth int, show func(int, element) bool) (end int, more bool) {
	if depth > api.MaxNest {
		panic(fault{api.ErrDepth, p})
	}
	e := element{s.whole(p), depth}
	end, more = e.end(p), show(p, e)
	if !e.Made {
		return end, more
	}
	inside := stretch{s.text, end, api.ErrOver}
	for p += e.Size; more && p < end; {
		p, more = walk(inside, p, depth+1, show)
	}
	return end, more
}
