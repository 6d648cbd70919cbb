package client

import (
	"strconv"
	"strings"

	"roster/api"
	"roster/frame"
	"roster/msg"
)

// limit is above the length of every message that a header can tell.
const limit = 1 << 40

// endings are, by the kinds of requests, the kinds of the replies that end their waiting. An unbind and an abandon never wait.
var endings = [...]api.ReplyKind{
	api.KindBind:     api.ReplyBind,
	api.KindSearch:   api.ReplyDone,
	api.KindModify:   api.ReplyModify,
	api.KindAdd:      api.ReplyAdd,
	api.KindDelete:   api.ReplyDelete,
	api.KindRename:   api.ReplyRename,
	api.KindCompare:  api.ReplyCompare,
	api.KindExtended: api.ReplyExtended,
}

// Client is one talk with a server.
type Client struct {
	framer  *frame.Framer
	sent    int                   // how many requests were
	waiting map[int]api.ReplyKind // by the id of each request that waits, the kind of the reply that ends it
	givenUp map[int]struct{}      // the ids whose replies are dropped, however many come
	over    bool
}

// end lets go all that the talk has kept: nothing is asked of it any more.
func (c *Client) end() { *c = Client{over: true} }

// await notes what a request that was sent means for the talk.
func (c *Client) await(r api.Request) {
	switch r.Kind {
	case api.KindUnbind:
		c.end()
	case api.KindAbandon:
		c.giveUp(r.Abandon)
	default:
		c.waiting[r.ID] = endings[r.Kind]
	}
}

func (c *Client) giveUp(id int) {
	if _, waits := c.waiting[id]; waits {
		delete(c.waiting, id)
		c.givenUp[id] = struct{}{}
	}
}

// take is the text of one message of the server. A notice ends the talk.
func (c *Client) take(message string) (string, api.Errno) {
	reply, err := msg.DecodeReply(message)
	if err != api.OK {
		return "", err
	}
	if reply.ID == 0 {
		c.end()
		return Show(reply), api.OK
	}
	if _, dropped := c.givenUp[reply.ID]; dropped {
		return "", api.OK
	}
	if !c.expects(reply) {
		return "", api.ErrStray
	}
	if reply.Kind != api.ReplyEntry {
		delete(c.waiting, reply.ID)
	}
	return Show(reply), api.OK
}

// expects tells whether a reply is one to a request that waits. Only of a search, which a done message ends, entries come ahead of the end.
func (c *Client) expects(reply api.Reply) bool {
	ending, waits := c.waiting[reply.ID]
	return waits && (reply.Kind == ending || reply.Kind == api.ReplyEntry && ending == api.ReplyDone)
}

// play sends a script's lines to a server that is fed bytes, and tells what comes of each.
func play(feed func(chunk []byte) []byte, script string) string {
	c := New()
	var told strings.Builder
lines:
	for _, line := range linesOf(script) {
		request, err := c.Send(line)
		switch err {
		case api.OK:
		case api.ErrNothing:
			continue lines
		default:
			complain(&told, err)
			continue lines
		}
		answer := feed(request)
		if c.Over() {
			continue lines // the rest is refused, line by line
		}
		shown, err := c.Receive(answer)
		told.WriteString(shown)
		if err != api.OK {
			complain(&told, err)
		}
	}
	return told.String()
}

// linesOf cuts a script into its lines; behind the last line feed there is one only if a byte is there.
func linesOf(script string) []string {
	lines := strings.Split(script, "\n")
	if last := len(lines) - 1; lines[last] == "" {
		return lines[:last]
	}
	return lines
}

func complain(told *strings.Builder, err api.Errno) {
	told.WriteString("! " + strconv.Itoa(int(err)) + "\n")
}
