package server

import (
	"strings"
	"sync"
	"testing"

	"roster/api"
)

// holdRendered holds the text, asked for twice, and that of the server that is opened with it.
func holdRendered(t *testing.T, snapshot, want string) {
	t.Helper()
	s := open(t, snapshot)
	for range 2 {
		if got := s.Render(); got != want {
			t.Fatalf("Render of %q = %q, want %q", snapshot, got, want)
		}
	}
	again := open(t, want)
	if again.Size() != s.Size() || again.Render() != want {
		t.Fatalf("opened again: Size %d, Render %q; want %d, %q", again.Size(), again.Render(), s.Size(), want)
	}
	for n := range s.Size() {
		one, other := s.store.Tree().Entry(n), again.store.Tree().Entry(n)
		one.Line, other.Line = 0, 0
		if told(one) != told(other) {
			t.Fatalf("opened again, entry %d is %s, not %s", n, told(other), told(one))
		}
	}
}

// P17.2: what a rendered snapshot has of the one that was read, and what not.
func TestRender(t *testing.T) {
	holdRendered(t, chapter, chapter)
	holdRendered(t, "VERSION:1\r\n#c\r\nDN:o=x\r\nO:x\r\n", "version: 1\n\ndn: o=x\nO: x\n")
	holdRendered(t, "version: 1\ndn:\nsn:\n", "version: 1\n\ndn:\nsn:\n")
	// the name's own values stand behind, but for that of the type dn
	holdRendered(t, "version: 1\ndn: dn=a+CN=b+control=c,o=x\nsn: s\n", "version: 1\n\ndn: dn=a+CN=b+control=c,o=x\nsn: s\nCN: b\ncontrol: c\n")
	// equal values once, spellings of one description together
	holdRendered(t, "version: 1\ndn: o=x\nsn;b;A: 1\no: X\nSN;a;b: 2\nsurname;A;B: 1 \no: x\n", "version: 1\n\ndn: o=x\nsn;b;A: 1\nsn;b;A: 2\no: X\n")
	// in canonical order, whatever the records' order was: all that is beneath 1 stands ahead of 1!
	holdRendered(t, "version: 1\ndn: o=x\no: x\n\ndn: cn=1!,o=x\ncn: 1!\n\ndn: cn=1,o=x\ncn: 1\n\ndn: cn=b,cn=1,o=x\ncn: b\n\ndn: CN=A,cn=1,o=x\ncn: a\n",
		"version: 1\n\ndn: o=x\no: x\n\ndn: cn=1,o=x\ncn: 1\n\ndn: CN=A,cn=1,o=x\ncn: a\n\ndn: cn=b,cn=1,o=x\ncn: b\n\ndn: cn=1!,o=x\ncn: 1!\n")
	// what can't stand raw
	holdRendered(t, "version: 1\ndn: o=x\no:: IHg=\no: y \nl:: w6k=\nuserPassword:: DQo=\nuserPassword:: OmE=\nuserPassword:: PGE=\nuserPassword:: YTo8\n",
		"version: 1\n\ndn: o=x\no:: IHg=\no:: eSA=\nl:: w6k=\nuserPassword:: DQo=\nuserPassword:: OmE=\nuserPassword:: PGE=\nuserPassword: a:<\n")
}

// P17.2: lines of just WrapWidth bytes and of more, raw and in base64, the name's too.
func TestRenderFolds(t *testing.T) {
	const front = "version: 1\n\ndn: o=x\no: x\n"
	for _, x := range []struct{ line, want string }{
		{"l: " + strings.Repeat("a", 73), "l: " + strings.Repeat("a", 73)},
		{"l: " + strings.Repeat("a", 74), "l: " + strings.Repeat("a", 73) + "\n a"},
		{"l: " + strings.Repeat("a", 73) + strings.Repeat("b", 75), "l: " + strings.Repeat("a", 73) + "\n " + strings.Repeat("b", 75)},
		{"l: " + strings.Repeat("a", 73) + strings.Repeat("b", 75) + "c", "l: " + strings.Repeat("a", 73) + "\n " + strings.Repeat("b", 75) + "\n c"},
		{"l: " + strings.Repeat("a ", 40) + "c", "l: " + strings.Repeat("a ", 36) + "a\n  " + strings.Repeat("a ", 3) + "c"},
		{"l:: " + strings.Repeat("w6nD", 18), "l:: " + strings.Repeat("w6nD", 18)},
		{"l:: " + strings.Repeat("w6nD", 19), "l:: " + strings.Repeat("w6nD", 18) + "\n w6nD"},
	} {
		holdRendered(t, front+x.line+"\n", front+x.want+"\n")
	}
	name := "cn=" + strings.Repeat("a", 100) + ",o=x"
	holdRendered(t, front+"\ndn: "+name+"\nsn: b\n", front+"\ndn: cn="+strings.Repeat("a", 69)+"\n "+strings.Repeat("a", 31)+",o=x\nsn: b\ncn: "+strings.Repeat("a", 72)+"\n "+strings.Repeat("a", 28)+"\n")
}

// P17.2, P0.4: many snapshots against the document told a second time; what is rendered gives the same tree again.
func TestRenderByChance(t *testing.T) {
	m := newMaker(173)
	for range 400 {
		snapshot := m.snapshot(m.paths(m.Intn(12)))
		entries, _ := slowOpen(snapshot)
		holdRendered(t, snapshot, slowRender(entries))
	}
}

// P17.2: whoever asks first, alone or with others, is told the same text; searches make no difference.
func TestRenderAtOnce(t *testing.T) {
	m := newMaker(174)
	for range 20 {
		paths := m.paths(10)
		snapshot := m.snapshot(paths)
		entries, _ := slowOpen(snapshot)
		want := slowRender(entries)
		s := open(t, snapshot)
		s.Answer(api.Request{ID: 1, Kind: api.KindSearch, Search: m.search(paths)})
		var all sync.WaitGroup
		for range 8 {
			all.Go(func() {
				if got := s.Render(); got != want {
					t.Errorf("Render = %q, want %q", got, want)
				}
			})
		}
		all.Wait()
	}
}
