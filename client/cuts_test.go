package client

import (
	"fmt"
	"math/bits"
	"strings"
	"testing"

	"roster/api"
)

// outcome is all of which P19.4 speaks.
type outcome struct {
	told    string
	first   api.Errno
	over    bool
	waiting string
}

// outcomeOf sends lines, and receives chunks behind them.
func outcomeOf(t *testing.T, lines []string, chunks ...string) outcome {
	t.Helper()
	x := newTalk(t, lines...)
	var out outcome
	for _, chunk := range chunks {
		text, err := x.receive(t, chunk)
		out.told += text
		if out.first == api.OK && err != api.ErrEnded {
			out.first = err
		}
	}
	out.over, out.waiting = x.Over(), fmt.Sprint(x.Waiting())
	return out
}

func holdOutcome(t *testing.T, want outcome, lines []string, chunks ...string) {
	t.Helper()
	if got := outcomeOf(t, lines, chunks...); got != want {
		t.Fatalf("behind %q, the chunks %x: %v; want %v", lines, chunks, got, want)
	}
}

// P19.4: short streams cut in all ways.
func TestEveryWayToCut(t *testing.T) {
	lines := []string{"bind", "delete n"}
	for stream, want := range map[string]outcome{
		welcome[:13]:           {"", api.OK, false, "[1 2]"},
		welcome:                {"# 1 bind 0\n", api.OK, false, "[2]"},
		welcome + "\x31":       {"# 1 bind 0\n", api.ErrFirst, true, "[]"},
		welcome + "\x30\x00":   {"# 1 bind 0\n", api.ErrMessage, true, "[]"},
		"\x30\x00" + welcome:   {"", api.ErrMessage, true, "[]"},
		end(3, api.ReplyBind):  {"", api.ErrStray, true, "[]"},
		end(0, 8) + "\x30\x85": {"# 0 extended 0\n", api.OK, true, "[]"},
	} {
		holdOutcome(t, want, lines, stream)
		n := len(stream)
		for way := range uint(1) << (n - 1) {
			chunks, from := make([]string, 0, bits.OnesCount(way)+1), 0
			for at := 1; at <= n; at++ {
				if at == n || way>>(at-1)&1 == 1 {
					chunks, from = append(chunks, stream[from:at]), at
				}
			}
			holdOutcome(t, want, lines, chunks...)
		}
	}
}

// P19.4: long streams cut at every byte, at every two places, into pieces of every length with empty chunks between.
func TestCuts(t *testing.T) {
	lines := []string{"bind", "search ldap:///dc=x", "delete n", "abandon 3", "compare n d v"}
	a, shown := found(2, "a"), "# 2 entry\ndn: a\ncn: a\ncn:: IGI=\n\n"
	done := "# 2 done 0\n"
	for stream, want := range map[string]outcome{
		a + welcome + a + end(2, api.ReplyDone):                           {shown + "# 1 bind 0\n" + shown + done, api.OK, false, "[5]"},
		end(3, 5) + a + lengthened(end(5, 7), 4) + a[:9]:                  {shown + "# 5 compare 0\n", api.OK, false, "[1 2]"},
		a + end(2, 2) + a + welcome:                                       {shown + done, api.ErrStray, true, "[]"},
		lengthened(welcome, 3) + notice + a + "\x31":                      {"# 1 bind 0\n" + noticed, api.OK, true, "[]"},
		welcome + end(3, 5) + end(3, 1) + "\x30\x85" + welcome + notice:   {"# 1 bind 0\n", api.ErrFrameLength, true, "[]"},
		a + "\x30\x05\x02\x01\x03\x42\x00" + end(2, 2) + "\x30\x80" + "z": {shown, api.ErrMessage, true, "[]"},
		end(4, 5): {"", api.ErrStray, true, "[]"},
	} {
		holdOutcome(t, want, lines, stream)
		holdOutcome(t, want, lines, strings.Split(stream, "")...)
		for p := range len(stream) {
			for q := p; q <= len(stream); q += 5 {
				holdOutcome(t, want, lines, stream[:p], stream[p:q], stream[q:])
			}
		}
		for length := 1; length <= len(stream); length++ {
			var chunks []string
			for rest := stream; rest != ""; rest = rest[min(length, len(rest)):] {
				chunks = append(chunks, rest[:min(length, len(rest))], "")
			}
			holdOutcome(t, want, lines, chunks...)
		}
	}
}

// P19.4: many streams, each whole, byte by byte and in two other ways.
func TestCutsByChance(t *testing.T) {
	m := newMaker(193)
	for range 1500 {
		var lines []string
		for range 1 + m.Intn(6) {
			if line := m.line(); !strings.Contains(lower(line), "unbind") {
				lines = append(lines, line)
			}
		}
		stream := m.stream(newTalk(t, lines...), 6)
		want := outcomeOf(t, lines, stream)
		holdOutcome(t, want, lines, strings.Split(stream, "")...)
		holdOutcome(t, want, lines, m.cuts(stream)...)
		holdOutcome(t, want, lines, m.cuts(stream)...)
	}
}
