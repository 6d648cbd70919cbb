package frame

import (
	"math"
	"math/rand"
	"slices"
	"strings"
	"testing"

	"roster/api"
)

const most = api.MaxMessage

// limits are those at which the rules of a header turn, and the ends of their type.
var limits = []int{math.MinInt, -1, 0, 1, 2, 3, 4, 5, 6, 7, 8, 128, 129, 130, most, 4294967300, 4294967301, math.MaxInt}

// forAll calls f with every text of at most longest bytes, all of them out of letters.
func forAll(letters string, longest int, f func(s string)) {
	var grow func(front []byte)
	grow = func(front []byte) {
		f(string(front))
		if len(front) == longest {
			return
		}
		for i := 0; i < len(letters); i++ {
			grow(append(front, letters[i]))
		}
	}
	grow(make([]byte, 0, longest))
}

// slowRefusal is the chapter's table of refusals, row by row.
func slowRefusal(limit int, b string) api.Errno {
	if len(b) >= 1 && b[0] != 0x30 {
		return api.ErrFirst
	}
	if len(b) >= 2 && b[1] == 0x80 {
		return api.ErrFrameIndefinite
	}
	if len(b) >= 2 && b[1] >= 0x85 {
		return api.ErrFrameLength
	}
	if own, body := slowLength(b); own > 0 && len(b) >= own && own+body > limit {
		return api.ErrFrameBig
	}
	return api.OK
}

// slowLength is the bytes of the header, and of the body with zeros for what is missing; 0 bytes where the length byte is missing.
func slowLength(b string) (own, body int) {
	if len(b) < 2 {
		return 0, 0
	}
	if b[1] <= 0x7f {
		return 2, int(b[1])
	}
	further := int(b[1]) - 0x80
	padded := b + "\x00\x00\x00\x00"
	for _, digit := range []byte(padded[2 : 2+further]) {
		body = body*256 + int(digit)
	}
	return 2 + further, body
}

// slowNeed is P3.1, line by line.
func slowNeed(limit int, b string) int {
	if slowRefusal(limit, b) != api.OK {
		return 0
	}
	switch b {
	case "":
		return 2
	case "\x30":
		return 1
	}
	own, body := slowLength(b)
	switch {
	case len(b) >= own+body:
		return 0
	case len(b) >= own:
		return own + body - len(b)
	}
	return own - len(b) + body
}

// slowCut is a stream's row of messages.
func slowCut(limit int, stream string) Cut {
	var cut Cut
	for {
		rest := stream[cut.At:]
		cut.Err = slowRefusal(limit, rest)
		if cut.Err != api.OK || slowNeed(limit, rest) > 0 {
			return cut
		}
		own, body := slowLength(rest)
		cut.Messages = append(cut.Messages, rest[:own+body])
		cut.At += own + body
	}
}

func sameCut(a, b Cut) bool {
	return slices.Equal(a.Messages, b.Messages) && a.At == b.At && a.Err == b.Err
}

// message is a whole message with a header of so many further length bytes.
func message(further int, body string) string {
	n := len(body)
	length := []byte{byte(n >> 24), byte(n >> 16), byte(n >> 8), byte(n)}[4-further:]
	if further == 0 {
		return "\x30" + string([]byte{byte(n)}) + body
	}
	return "\x30" + string([]byte{0x80 + byte(further)}) + string(length) + body
}

// someStream is some messages with headers of all forms and something behind them: nothing, a part of a message, or what is refused.
func someStream(r *rand.Rand) string {
	var b strings.Builder
	for range r.Intn(6) {
		body := make([]byte, r.Intn(20))
		r.Read(body)
		b.WriteString(message(r.Intn(5), string(body)))
	}
	ends := []string{"", "\x30", "\x30\x05ab", "\x30\x84\x00\x00", "\x30\x82\x01\x00a", "\x31", "\x00\x30\x00", "\x30\x80\x00", "\x30\x85\x01", "\x30\xffab", "\x30\x84\xff\xff\xff\xff\x30\x00", "\x30\x84\x7f"}
	b.WriteString(ends[r.Intn(len(ends))])
	return b.String()
}

// play feeds the chunks to a new framer and holds it, behind each of them, against the stream so far; it answers the framer.
func play(t *testing.T, limit int, chunks ...string) *Framer {
	t.Helper()
	f := New(limit)
	given, stream := 0, ""
	for _, chunk := range chunks {
		stream += chunk
		want := slowCut(limit, stream)
		bytes := []byte(chunk)
		messages, err := f.Feed(bytes)
		if string(bytes) != chunk {
			t.Fatalf("limit %d, chunks %x: Feed changed its chunk to %x", limit, chunks, bytes)
		}
		for i := range bytes {
			bytes[i] ^= 0x55
		}
		if !slices.Equal(messages, want.Messages[given:]) || err != want.Err {
			t.Fatalf("limit %d, chunks %x: Feed(%x) = %x, %d; want %x, %d", limit, chunks, chunk, messages, err, want.Messages[given:], want.Err)
		}
		given += len(messages)
		clear(messages[:cap(messages)])
		check(t, f, limit, stream, want)
	}
	return f
}

// check holds what a framer tells of itself against its stream.
func check(t *testing.T, f *Framer, limit int, stream string, want Cut) {
	t.Helper()
	held, need, place := len(stream)-want.At, slowNeed(limit, stream[want.At:]), 0
	if want.Err != api.OK {
		held, need, place = 0, 0, want.At
	}
	if f.Held() != held || f.Need() != need {
		t.Fatalf("limit %d, stream %x: Held %d, Need %d; want %d, %d", limit, stream, f.Held(), f.Need(), held, need)
	}
	if err, at := f.Fault(); err != want.Err || at != place {
		t.Fatalf("limit %d, stream %x: Fault %d, %d; want %d, %d", limit, stream, err, at, want.Err, place)
	}
	if f.Held() >= limit && f.Held() > 5 {
		t.Fatalf("limit %d, stream %x: %d bytes are kept", limit, stream, f.Held())
	}
}
