package frame

import "roster/api"

const (
	firstByte  = 0x30 // begins every message
	shortest   = 2    // bytes of a header without further length bytes
	longMark   = 0x80 // as a length byte: a length that is not definite; with a number added: so many further length bytes
	furtherMax = 4    // further length bytes at most
	longest    = shortest + furtherMax
)

// header is what the front of a message tells of it; of a refused one it is the error alone.
type header struct {
	missing int // bytes of the header itself that have not come
	size    int // bytes of the whole message, a length byte that is missing taken as 0
	err     api.Errno
}

// need is how many bytes the message lacks when have of them are there.
func (h header) need(have int) int {
	return max(0, h.size-have)
}

// look reads the header that b begins with, as far as it is there.
func look(limit int, b string) header {
	switch {
	case len(b) == 0:
		return header{missing: shortest, size: shortest}
	case b[0] != firstByte:
		return header{err: api.ErrFirst}
	case len(b) < shortest:
		return header{missing: 1, size: shortest}
	case b[1] < longMark:
		return within(limit, header{size: shortest + int(b[1])})
	case b[1] == longMark:
		return header{err: api.ErrFrameIndefinite}
	case b[1] > longMark+furtherMax:
		return header{err: api.ErrFrameLength}
	}
	own := shortest + int(b[1]-longMark)
	return within(limit, header{missing: max(0, own-len(b)), size: own + body(b, own)})
}

// within is the header itself, unless it is whole and its message is above the limit: then it is refused.
func within(limit int, h header) header {
	if h.missing == 0 && h.size > limit {
		return header{err: api.ErrFrameBig}
	}
	return h
}

// body is the length that the further length bytes of a header of own bytes say.
func body(b string, own int) int {
	length := 0
	switch own - shortest {
	case 4:
		length |= lengthByte(b, own-4) << 24
		fallthrough
	case 3:
		length |= lengthByte(b, own-3) << 16
		fallthrough
	case 2:
		length |= lengthByte(b, own-2) << 8
		fallthrough
	case 1:
		length |= lengthByte(b, own-1)
	}
	return length
}

// lengthByte is the byte at a place, 0 if it is missing.
func lengthByte(b string, place int) int {
	if place >= len(b) {
		return 0
	}
	return int(b[place])
}
