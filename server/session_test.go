package server

import (
	"strings"
	"testing"

	"roster/api"
)

// P17.4: the chapter's examples 2 to 5, and the tenth of the whole.
func TestSession(t *testing.T) {
	s := open(t, chapter)
	c := s.Connect()
	holdState(t, c, false, 0, 0)
	holdFed(t, c, hello, welcome)
	holdState(t, c, false, 0, 1)

	c = s.Connect()
	holdFed(t, c, hello[:3], "")
	holdState(t, c, false, 3, 0)
	holdFed(t, c, hello[3:], welcome)
	holdState(t, c, false, 0, 1)

	c = s.Connect()
	holdFed(t, c, goodbye, "")
	holdState(t, c, true, 0, 1)

	c = s.Connect()
	holdFed(t, c, "\x31", notice)
	holdState(t, c, true, 0, 0)
	for _, later := range []string{"", "\x31", hello, goodbye, find} {
		holdFed(t, c, later, "")
		holdState(t, c, true, 0, 0)
	}

	c = s.Connect()
	holdFed(t, c, "\x30\x00", notice)
	holdState(t, c, true, 0, 0)
}

// P17.4: nil and an empty chunk change nothing and answer nothing, in no state.
func TestFeedNothing(t *testing.T) {
	w := newWorld(t, chapter)
	for _, stream := range []string{"", "\x30", hello[:13], hello, hello + find[:9], "\x30\x83\x0f\xff\xfb", goodbye, goodbye + hello[:3], "\x31", hello + "\x30\x00" + hello[:5]} {
		c := w.connect()
		c.feed(t, stream)
		if got := c.session.Feed(nil); len(got) != 0 {
			t.Errorf("Feed(nil) = %x", got)
		}
		c.feed(t, "")
		c.feed(t, hello)
	}
}

// P17.4: many messages in one chunk, and what is not whole behind them.
func TestFeedMany(t *testing.T) {
	c := open(t, chapter).Connect()
	holdFed(t, c, hello+find+abandon+remove+hello+find[:20], welcome+found+removed+welcome)
	holdState(t, c, false, 20, 5)
	holdFed(t, c, find[20:]+hello[:1], found)
	holdState(t, c, false, 1, 6)
	holdFed(t, c, hello[1:13], "")
	holdState(t, c, false, 13, 6)
	holdFed(t, c, hello[13:]+goodbye[:2], welcome)
	holdState(t, c, false, 2, 7)
	holdFed(t, c, goodbye[2:], "")
	holdState(t, c, true, 0, 8)
}

// P17.4, P17.6: a message that is none, ahead of others and behind others: the notice is the last thing that is answered, and the rest of the chunk is dropped.
func TestNoMessage(t *testing.T) {
	s := open(t, chapter)
	for _, bad := range noMessages() {
		c := s.Connect()
		holdFed(t, c, bad+hello+bad+goodbye, notice)
		holdState(t, c, true, 0, 0)
		holdFed(t, c, hello+bad, "")
		holdState(t, c, true, 0, 0)

		c = s.Connect()
		holdFed(t, c, hello+find+bad+hello+hello[:4], welcome+found+notice)
		holdState(t, c, true, 0, 2)

		c = s.Connect()
		holdFed(t, c, find+bad[:len(bad)-1], found) // not whole, so not looked at
		holdState(t, c, false, len(bad)-1, 1)
		holdFed(t, c, bad[len(bad)-1:]+"\x31", notice)
		holdState(t, c, true, 0, 1)
	}
}

// P17.4, P17.6: bytes that the framer refuses, at once and behind whole messages; a message ahead of them that is none or an unbind comes first.
func TestNoHeader(t *testing.T) {
	s := open(t, chapter)
	for _, bad := range noHeaders() {
		c := s.Connect()
		holdFed(t, c, bad, notice)
		holdState(t, c, true, 0, 0)
		holdFed(t, c, hello, "")

		c = s.Connect()
		holdFed(t, c, hello+remove+bad+hello, welcome+removed+notice)
		holdState(t, c, true, 0, 2)
		holdFed(t, c, bad, "")
		holdState(t, c, true, 0, 2)

		c = s.Connect()
		holdFed(t, c, hello+"\x30\x00"+bad, welcome+notice)
		holdState(t, c, true, 0, 1)

		c = s.Connect()
		holdFed(t, c, hello+goodbye+bad, welcome)
		holdState(t, c, true, 0, 2)

		c = s.Connect() // each byte alone: refused with the last one, and not before
		for place := range len(bad) - 1 {
			holdFed(t, c, bad[place:place+1], "")
			holdState(t, c, false, place+1, 0)
		}
		holdFed(t, c, bad[len(bad)-1:], notice)
		holdState(t, c, true, 0, 0)
	}
}

// P17.4: an unbind, with whole messages, parts of them and wrong bytes behind it, in its chunk or later: nothing is answered any more, and nothing is kept.
func TestUnbind(t *testing.T) {
	s := open(t, chapter)
	for _, behind := range append([]string{"", hello, hello[:9], goodbye, find + "\x31", "\x30\x83\x0f\xff\xfb" + hello}, append(noMessages(), noHeaders()...)...) {
		c := s.Connect()
		holdFed(t, c, hello+goodbye+behind, welcome)
		holdState(t, c, true, 0, 2)
		holdFed(t, c, behind, "")
		holdState(t, c, true, 0, 2)

		c = s.Connect()
		holdFed(t, c, goodbye, "")
		holdFed(t, c, behind, "")
		holdState(t, c, true, 0, 1)
	}
}

// great is a bind with a password, of just so many bytes, with so many further length bytes ahead.
func great(bytes, further int) string {
	number := func(n int) string { return string([]byte{byte(n >> 16), byte(n >> 8), byte(n)}) }
	const version, name = "\x02\x01\x03", "\x04\x00"
	password := bytes - (2 + further) - 3 - 5 - len(version+name) - 5
	bind := version + name + "\x80\x83" + number(password) + strings.Repeat("p", password)
	body := "\x02\x01\x01\x60\x83" + number(len(bind)) + bind
	return "\x30" + string([]byte{0x80 + byte(further)}) + ("\x00" + number(len(body)))[4-further:] + body
}

// P17.4, P17.8: a message of just MaxMessage bytes is served, and one byte less of it is held; one of a byte more is refused with its header.
func TestGreatest(t *testing.T) {
	const refusal = "\x30\x1a\x02\x01\x01\x61\x15\x0a\x01\x31\x04\x00\x04\x0eanonymous only"
	s := open(t, chapter)
	for further := 3; further <= 4; further++ {
		most, over := great(api.MaxMessage, further), great(api.MaxMessage+1, further)
		if len(most) != api.MaxMessage || len(over) != api.MaxMessage+1 {
			t.Fatalf("messages of %d and %d bytes", len(most), len(over))
		}
		c := s.Connect()
		holdFed(t, c, most+hello[:2], refusal)
		holdState(t, c, false, 2, 1)
		holdFed(t, c, hello[2:]+most[:api.MaxMessage-1], welcome)
		holdState(t, c, false, api.MaxMessage-1, 2)
		holdFed(t, c, most[api.MaxMessage-1:], refusal)
		holdState(t, c, false, 0, 3)
		holdFed(t, c, over[:1+further], "")
		holdState(t, c, false, 1+further, 3)
		holdFed(t, c, over[1+further:2+further], notice)
		holdState(t, c, true, 0, 3)

		c = s.Connect()
		holdFed(t, c, most+over+most, refusal+notice)
		holdState(t, c, true, 0, 1)
	}
}

// P17.8: at every byte of a long stream what is held is below MaxMessage, and is what is not whole.
func TestHeldIsBounded(t *testing.T) {
	c := open(t, chapter).Connect()
	most := great(api.MaxMessage, 4)
	for place := range len(most) {
		c.Feed([]byte{most[place]})
		if want := (place + 1) % api.MaxMessage; c.Held() != want {
			t.Fatalf("behind %d bytes: Held %d", place+1, c.Held())
		}
	}
	stream := most + most
	for at, step := 0, 400000; at < len(stream); at += step {
		c.Feed([]byte(stream[at:min(at+step, len(stream))]))
		if c.Held() >= api.MaxMessage {
			t.Fatalf("Held %d", c.Held())
		}
	}
	holdState(t, c, false, 0, 3)
}

// P17.4, P17.6, P0.2: many streams over many snapshots, cut by chance, held behind each chunk against the document told a second time.
func TestStreamsByChance(t *testing.T) {
	m := newMaker(177)
	notices, unbinds := 0, 0
	for range 80 {
		paths := m.paths(m.Intn(10))
		w := newWorld(t, m.snapshot(paths))
		for range 30 {
			stream := m.stream(t, paths)
			w.play(t, m.cuts(stream)...)
			w.play(t, stream)
			end := w.behind(stream)
			if strings.HasSuffix(end.answered, notice) {
				notices++
			} else if end.closed {
				unbinds++
			}
			if n := strings.Count(end.answered, notice); n > 1 {
				t.Fatalf("%d notices", n)
			}
		}
	}
	if notices < 200 || unbinds < 50 {
		t.Errorf("%d streams with a notice and %d with an unbind are too few", notices, unbinds)
	}
}

// P17.4, P0.1: any bytes at all.
func TestAnyBytes(t *testing.T) {
	m := newMaker(178)
	w := newWorld(t, chapter)
	for range 3000 {
		stream := make([]byte, m.Intn(30))
		m.Read(stream)
		if m.Intn(2) == 0 {
			stream = []byte(pick(m.Rand, []string{hello, find, goodbye, abandon, remove, hello + find}))
			for range 1 + m.Intn(3) {
				stream[m.Intn(len(stream))] = byte(m.Intn(256))
			}
		}
		w.play(t, m.cuts(string(stream))...)
	}
}
