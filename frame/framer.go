package frame

import (
	"slices"

	"roster/api"
)

// Framer cuts a stream that comes in chunks.
type Framer struct {
	limit int
	at    int    // bytes of the stream ahead of those that are held
	held  []byte // what has come of the message that is not whole yet
	head  header // what held tells; of a refused stream the error
}

// New makes a framer for messages of at most limit bytes.
func New(limit int) *Framer {
	return &Framer{limit: limit, head: look(limit, "")}
}

// Feed takes a chunk and answers the messages that are whole with it.
func (f *Framer) Feed(chunk []byte) ([]string, api.Errno) {
	if f.head.err != api.OK {
		return nil, f.head.err
	}
	var messages []string
stream:
	for len(chunk) > 0 {
		chunk = f.take(chunk)
		switch whole := (header{size: len(f.held)}); {
		case f.head.err != api.OK:
			f.held = nil
			break stream
		case f.head == whole:
			messages = append(messages, f.give())
		}
	}
	if len(messages) > 0 {
		f.shrink()
	}
	return messages, f.head.err
}

// take keeps, of the chunk, what the header still lacks or else what the message lacks, and answers the rest of the chunk. The header goes first: a message that its header will refuse is not gathered.
func (f *Framer) take(chunk []byte) []byte {
	wanted := f.head.missing
	if wanted == 0 {
		wanted = f.head.need(len(f.held))
	}
	piece := chunk[:min(wanted, len(chunk))]
	have := len(f.held)
	f.held = slices.Grow(f.held, len(piece))[:have+len(piece)]
	copy(f.held[have:], piece)
	f.look()
	return chunk[len(piece):]
}

// look reads the header of what is held.
func (f *Framer) look() {
	f.head = look(f.limit, string(f.held[:min(len(f.held), longest)]))
}

// give answers the message that is held, whole, and begins the next one in the same room.
func (f *Framer) give() string {
	message := string(f.held)
	f.at += len(message)
	f.held = f.held[:0]
	f.look()
	return message
}

// shrink moves what is held into room of its own size, so that a great message leaves nothing behind.
func (f *Framer) shrink() {
	room := make([]byte, len(f.held))
	copy(room, f.held)
	f.held = room
}

// Held tells how many bytes are kept.
func (f *Framer) Held() int { return len(f.held) }

// Need tells the least number of further bytes with which the next message can be whole.
func (f *Framer) Need() int { return f.head.need(len(f.held)) }

// Fault tells the refusal, and how many bytes of the stream stand ahead of what is refused.
func (f *Framer) Fault() (api.Errno, int) {
	if f.head.err == api.OK {
		return api.OK, 0
	}
	return f.head.err, f.at
}
