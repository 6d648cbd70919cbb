package server

import (
	"math/bits"
	"strings"
	"testing"

	"roster/api"
)

// P17.5, P0.2: one stream cut in all ways.
func TestEveryWayToCut(t *testing.T) {
	w := newWorld(t, chapter)
	for _, stream := range []string{abandon + "\x31\x30\x00", abandon + "\x30\x00\x31", abandon + "\x30\x84\xff\xff\xff\xff", goodbye + "\x30\x80\x30\x00", "\x30\x84\x00\x00\x00\x05" + goodbye[2:], hello[:13], remove + "\x30"} {
		n := len(stream)
		for way := range uint(1) << (n - 1) {
			chunks, from := make([]string, 0, bits.OnesCount(way)+1), 0
			for at := 1; at <= n; at++ {
				if at == n || way>>(at-1)&1 == 1 {
					chunks, from = append(chunks, stream[from:at]), at
				}
			}
			w.play(t, chunks...)
		}
	}
}

// streams are long ones that end in all ways: open with something held and without, with an unbind, with a notice.
func streams() map[string]state {
	return map[string]state{
		hello + find + remove:                              {welcome + found + removed, false, 0, 3},
		hello + find + remove[:7]:                          {welcome + found, false, 7, 2},
		find + lengthened(hello, 3) + goodbye + find:       {found + welcome, true, 0, 3},
		abandon + lengthened(find, 4) + "\x30\x85" + hello: {found + notice, true, 0, 2},
		find + "\x30\x02\x05\x00" + goodbye + "\x31":       {found + notice, true, 0, 1},
		find + find + hello + goodbye + "\x31\x30\x00":     {found + found + welcome, true, 0, 4},
	}
}

// P17.5, P0.2: long streams cut at every two places, into pieces of every length, and byte by byte with empty chunks between.
func TestCuts(t *testing.T) {
	w := newWorld(t, chapter)
	for stream, want := range streams() {
		if got := w.behind(stream); got != want {
			t.Fatalf("behind %x the document is told as %s; want %s", stream, got, want)
		}
		for a := range len(stream) {
			for b := a; b <= len(stream); b += 5 {
				w.play(t, stream[:a], stream[a:b], stream[b:])
			}
		}
		for length := 1; length <= len(stream); length++ {
			var chunks []string
			for rest := stream; rest != ""; rest = rest[min(length, len(rest)):] {
				chunks = append(chunks, rest[:min(length, len(rest))], "")
			}
			w.play(t, chunks...)
		}
	}
}

// P17.7: sessions of one server, fed in turns, each answer as if they were alone; one that ends takes no other with it.
func TestTurns(t *testing.T) {
	s := open(t, chapter)
	a, b, c := s.Connect(), s.Connect(), s.Connect()
	holdFed(t, a, hello[:5], "")
	holdFed(t, b, find[:5], "")
	holdFed(t, c, "\x31", notice)
	holdState(t, a, false, 5, 0)
	holdState(t, b, false, 5, 0)
	holdState(t, c, true, 0, 0)
	holdFed(t, b, find[5:]+goodbye, found)
	holdFed(t, a, hello[5:]+hello[:2], welcome)
	holdState(t, a, false, 2, 1)
	holdState(t, b, true, 0, 2)
	holdFed(t, c, hello, "")
	holdFed(t, s.Connect(), hello, welcome)
	holdFed(t, a, hello[2:], welcome)
	holdState(t, a, false, 0, 2)
	holdState(t, b, true, 0, 2)
	holdState(t, c, true, 0, 0)
}

// P17.7: many sessions, their chunks dealt by chance, each held against its own stream.
func TestTurnsByChance(t *testing.T) {
	m := newMaker(179)
	for range 60 {
		paths := m.paths(m.Intn(10))
		w := newWorld(t, m.snapshot(paths))
		var clients []*client
		var waiting [][]string
		for range 2 + m.Intn(6) {
			clients, waiting = append(clients, w.connect()), append(waiting, m.cuts(m.stream(t, paths)))
		}
		for range 300 {
			who := m.Intn(len(clients))
			if len(waiting[who]) > 0 {
				clients[who].feed(t, waiting[who][0])
				waiting[who] = waiting[who][1:]
			}
		}
	}
}

func asBytes(chunks []string) [][]byte {
	var out [][]byte
	for _, chunk := range chunks {
		out = append(out, []byte(chunk))
	}
	return out
}

func holdTalk(t *testing.T, snapshot string, chunks [][]byte, want string, fault api.Fault) {
	t.Helper()
	if told, f := Talk(snapshot, chunks); string(told) != want || f != fault {
		t.Fatalf("Talk(%q, %x) = %x, %v; want %x, %v", snapshot, chunks, told, f, want, fault)
	}
}

// P17.9: with a fault nothing and the fault, whatever the chunks; without one the answers one behind the other.
func TestTalk(t *testing.T) {
	none := api.Fault{}
	holdTalk(t, chapter, nil, "", none)
	holdTalk(t, chapter, [][]byte{}, "", none)
	holdTalk(t, chapter, [][]byte{nil, {}}, "", none)
	holdTalk(t, chapter, asBytes([]string{hello, "", find + goodbye, hello}), welcome+found, none)
	holdTalk(t, chapter, asBytes([]string{hello[:3], hello[3:] + "\x31", find}), welcome+notice, none)
	holdTalk(t, chapter, asBytes([]string{find, hello[:3]}), found, none)
	for _, chunks := range [][][]byte{nil, asBytes([]string{hello}), asBytes([]string{"\x31"})} {
		holdTalk(t, "", chunks, "", api.Fault{Err: api.ErrVersion, Line: 1})
		holdTalk(t, "version: 1\ndn: dc\ndc: x\n", chunks, "", api.Fault{Err: api.ErrName, Line: 2})
		holdTalk(t, "version: 1\ndn: o=x\no: x\n\ndn: O=X\no: x\n", chunks, "", api.Fault{Err: api.ErrDouble, Line: 5})
		holdTalk(t, "version: 1\ndn: o=x\no: x\n\ndn: o=y\no: y\n", chunks, "", api.Fault{Err: api.ErrOrphan, Line: 5})
	}
}

// P17.9, P17.5, P0.2: many talks, the same stream in two ways.
func TestTalkByChance(t *testing.T) {
	m := newMaker(180)
	for range 150 {
		paths := m.paths(m.Intn(8))
		snapshot := m.damaged(paths)
		stream := m.stream(t, paths)
		want := ""
		_, fault := slowOpen(snapshot)
		if fault == (api.Fault{}) {
			want = newWorld(t, snapshot).behind(stream).answered
		}
		holdTalk(t, snapshot, asBytes(m.cuts(stream)), want, fault)
		holdTalk(t, snapshot, asBytes(strings.Split(stream, "")), want, fault)
	}
}
