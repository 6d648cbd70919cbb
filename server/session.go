package server

import (
	"roster/api"
	"roster/frame"
	"roster/msg"
)

// Session is one client's: its framer, and what becomes of the messages that come out of it. Held is the framer's own: a closed session has a framer to which no byte came.
type Session struct {
	*frame.Framer
	answer func(r api.Request) ([]api.Reply, bool) // the server's; none is asked for once the session is closed
	served int
	closed bool
}

// Connect begins a session.
func (s *Server) Connect() *Session {
	return &Session{Framer: frame.New(api.MaxMessage), answer: s.Answer}
}

// Feed takes a chunk of the client's bytes and answers bytes for it. Should anything go wrong beneath, the messages ahead are still answered, and the session is closed.
func (c *Session) Feed(chunk []byte) (answered []byte) {
	if c.closed {
		return nil
	}
	defer func() {
		if recover() != nil {
			c.hangUp()
		}
	}()
	messages, refused := c.Framer.Feed(chunk)
	for _, message := range messages {
		answered = c.serve(message, answered)
		if c.closed {
			return answered
		}
	}
	if refused != api.OK {
		answered = c.dismiss(answered)
	}
	return answered
}

// serve puts the answer to one message behind what is answered already.
func (c *Session) serve(message string, answered []byte) []byte {
	request, err := msg.DecodeRequest(message)
	if err != api.OK {
		return c.dismiss(answered)
	}
	c.served++
	replies, ends := c.answer(request)
	if ends {
		c.hangUp()
	}
	return written(answered, replies...)
}

// dismiss answers the notice and closes the session.
func (c *Session) dismiss(answered []byte) []byte {
	c.hangUp()
	return written(answered, msg.Notice(api.NoticeText))
}

// hangUp closes the session, and lets go what it holds of the client's bytes and of its server.
func (c *Session) hangUp() {
	c.Framer, c.answer, c.closed = frame.New(api.MaxMessage), nil, true
}

// written puts the bytes of replies behind others. One that can't be written is left out.
func written(answered []byte, replies ...api.Reply) []byte {
	for _, reply := range replies {
		text, err := msg.EncodeReply(reply)
		if err == api.OK {
			answered = append(answered, text...)
		}
	}
	return answered
}

// Closed tells whether the session has ended.
func (c *Session) Closed() bool { return c.closed }

// Served tells how many requests were taken.
func (c *Session) Served() int { return c.served }
