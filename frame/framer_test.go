package frame

import (
	"math/rand"
	"slices"
	"strings"
	"sync"
	"testing"

	"roster/api"
)

// step is a Feed and what is seen behind it.
type step struct {
	chunk, messages string
	err             api.Errno
	held, need      int
}

func walk(t *testing.T, f *Framer, steps ...step) {
	t.Helper()
	for _, x := range steps {
		messages, err := f.Feed([]byte(x.chunk))
		if strings.Join(messages, "|") != x.messages || err != x.err || f.Held() != x.held || f.Need() != x.need {
			t.Errorf("Feed(%x) = %x, %d; Held %d, Need %d; want %x", x.chunk, messages, err, f.Held(), f.Need(), x)
		}
	}
}

// P3.4 to P3.7, the chapter's example.
func TestFramer(t *testing.T) {
	f := New(most)
	walk(t, f,
		step{"\x30\x02", "", api.OK, 2, 2},
		step{"\x01", "", api.OK, 3, 1},
		step{"\x02\x30\x00\x30\x85\x11", "\x30\x02\x01\x02|\x30\x00", api.ErrFrameLength, 0, 0})
	if err, at := f.Fault(); err != api.ErrFrameLength || at != 6 {
		t.Errorf("Fault() = %d, %d", err, at)
	}
	walk(t, f,
		step{"\x30\x00", "", api.ErrFrameLength, 0, 0},
		step{"", "", api.ErrFrameLength, 0, 0},
		step{"\x31", "", api.ErrFrameLength, 0, 0})
	if err, at := f.Fault(); err != api.ErrFrameLength || at != 6 {
		t.Errorf("Fault() = %d, %d behind the refusal", err, at)
	}
}

// P3.3, P3.5 to P3.7: a new framer, whatever its limit.
func TestNew(t *testing.T) {
	for _, limit := range limits {
		f := New(limit)
		if err, at := f.Fault(); f.Held() != 0 || f.Need() != 2 || err != api.OK || at != 0 {
			t.Errorf("New(%d): Held %d, Need %d, Fault %d, %d", limit, f.Held(), f.Need(), err, at)
		}
	}
}

// P3.4: an empty chunk and nil change nothing, in no state.
func TestEmptyChunk(t *testing.T) {
	for _, stream := range []string{"", "\x30", "\x30\x82\x00", "\x30\x03ab", "\x30\x00", "\x30\x00\x31", "\x30\x85"} {
		f := New(most)
		f.Feed([]byte(stream))
		want := slowCut(most, stream)
		for _, chunk := range [][]byte{nil, {}} {
			if messages, err := f.Feed(chunk); len(messages) != 0 || err != want.Err {
				t.Errorf("behind %x: an empty Feed = %x, %d", stream, messages, err)
			}
			check(t, f, most, stream, want)
		}
	}
}

// P3.4, P3.5 to P3.7: one stream cut at every place, in all ways.
func TestEveryWayToCut(t *testing.T) {
	for _, x := range []struct {
		limit  int
		stream string
	}{
		{most, "\x30\x02ab\x30\x00\x30\x81\x01c\x31\x30"},
		{most, "\x30\x82\x00\x01a\x30\x84\x00\x00\x00\x00\x30"},
		{6, "\x30\x00\x30\x84\x00\x00\x00\x01a\x30\x00"},
		{1, "\x30\x83\x00\x00\x00\x30\x00"},
		{most, "\x30\x83\x00\x00\x02\x30\x80\x30\x80\x00\x30\x00"},
		{most, "\x30\x01\x00\x30\x00\x30\x85\x00\x30\x00"},
		{most, "\x30\x00\x30\x00\x30\x84\x00\xff\xff\xff\xff\x30"},
	} {
		n := len(x.stream)
		for ways := range 1 << (n - 1) {
			var chunks []string
			from := 0
			for i := 1; i <= n; i++ {
				if i == n || ways>>(i-1)&1 == 1 {
					chunks = append(chunks, x.stream[from:i])
					from = i
				}
			}
			play(t, x.limit, chunks...)
		}
	}
}

// P3.4 to P3.7: every short stream at every limit, byte by byte and at once.
func TestEveryStream(t *testing.T) {
	forAll("\x30\x00\x01\x80\x82\x84\x85", 5, func(stream string) {
		for _, limit := range []int{-1, 0, 1, 2, 3, 5, 6, most} {
			play(t, limit, stream)
			play(t, limit, strings.Split(stream, "")...)
		}
	})
}

// P3.4 to P3.7: many streams with headers of all forms, cut by chance, with empty chunks between.
func TestSomeStreams(t *testing.T) {
	r := rand.New(rand.NewSource(4))
	for range 3000 {
		stream := someStream(r)
		var chunks []string
		for rest := stream; rest != ""; {
			n := min(r.Intn(12), len(rest))
			chunks = append(chunks, rest[:n])
			rest = rest[n:]
		}
		play(t, limits[r.Intn(len(limits))], chunks...)
		play(t, most, chunks...)
	}
}

// P3.4: each refusal is found out at its byte of the header, and not before.
func TestRefusedAtItsByte(t *testing.T) {
	for _, x := range []struct {
		limit  int
		header string
		err    api.Errno
		at     int
	}{
		{most, "\x31", api.ErrFirst, 0}, {most, "\x00\x00", api.ErrFirst, 0}, {most, "\x02\x80", api.ErrFirst, 0},
		{most, "\x30\x80", api.ErrFrameIndefinite, 1}, {0, "\x30\x80", api.ErrFrameIndefinite, 1},
		{most, "\x30\x85", api.ErrFrameLength, 1}, {0, "\x30\xff", api.ErrFrameLength, 1},
		{1, "\x30\x00", api.ErrFrameBig, 1}, {1, "\x30\x81\x00", api.ErrFrameBig, 2}, {1, "\x30\x82\x00\x00", api.ErrFrameBig, 3},
		{1, "\x30\x83\x00\x00\x00", api.ErrFrameBig, 4}, {1, "\x30\x84\x00\x00\x00\x00", api.ErrFrameBig, 5},
		{most, "\x30\x84\xff\xff\xff\xff", api.ErrFrameBig, 5}, {most, "\x30\x83\x10\x00\x00", api.ErrFrameBig, 4}, {129, "\x30\x81\x80", api.ErrFrameBig, 2},
	} {
		front := message(0, "")
		if x.limit < len(front) {
			front = ""
		}
		f := New(x.limit)
		f.Feed([]byte(front))
		for i := range len(x.header) {
			want := api.OK
			if i >= x.at {
				want = x.err
			}
			if messages, err := f.Feed([]byte{x.header[i]}); err != want || len(messages) != 0 {
				t.Errorf("limit %d, header %x: at byte %d the answer %x, %d; want %d", x.limit, x.header, i, messages, err, want)
			}
		}
		if err, at := f.Fault(); err != x.err || at != len(front) {
			t.Errorf("limit %d, header %x: Fault %d, %d", x.limit, x.header, err, at)
		}
	}
}

// P3.4, P3.5: the greatest message, byte by byte, and a byte less of it kept.
func TestGreatest(t *testing.T) {
	for further := 3; further <= 4; further++ {
		whole := message(further, strings.Repeat("z", most-2-further))
		f := New(most)
		for i := range len(whole) {
			messages, err := f.Feed([]byte{whole[i]})
			if i < most-1 && (len(messages) != 0 || err != api.OK || f.Held() != i+1) {
				t.Fatalf("byte %d: %d messages, error %d, Held %d", i, len(messages), err, f.Held())
			}
			if i == most-2 && f.Need() != 1 {
				t.Fatalf("a byte less: Need %d", f.Need())
			}
			if i == most-1 && (len(messages) != 1 || messages[0] != whole || err != api.OK || f.Held() != 0 || f.Need() != 2) {
				t.Fatalf("the whole: %d messages, error %d, Held %d, Need %d", len(messages), err, f.Held(), f.Need())
			}
		}
	}
}

// P3.4: what the caller writes into a chunk or into a list that was given out is seen nowhere; the chunk and what stands behind it are not changed.
func TestCallersMemory(t *testing.T) {
	room := []byte("\x30\x02ab\x30\x03cdXYZ")
	before := string(room)
	f := New(most)
	one, _ := f.Feed(room[:8:11])
	if string(room) != before {
		t.Errorf("Feed changed what it was handed to %x", room)
	}
	for i := range room {
		room[i] = 0xee
	}
	if len(one) != 1 || one[0] != "\x30\x02ab" {
		t.Errorf("a message changed with its chunk: %x", one)
	}
	clear(one[:cap(one)])
	two, err := f.Feed([]byte("e\x30\x01f\x30\x00"))
	want := []string{"\x30\x03cde", "\x30\x01f", "\x30\x00"}
	if !slices.Equal(two, want) || err != api.OK {
		t.Errorf("Feed = %x, %d; want %x", two, err, want)
	}
	kept := slices.Clone(two)
	three, _ := f.Feed([]byte("\x30\x01g\x30\x01h"))
	clear(three[:cap(three)])
	if !slices.Equal(two, kept) {
		t.Error("two answers share memory")
	}
}

// P3.3: framers know nothing of each other, at the same time too.
func TestFramersAreAlone(t *testing.T) {
	f, g := New(most), New(3)
	walk(t, f, step{"\x30\x02", "", api.OK, 2, 2})
	walk(t, g, step{"\x30", "", api.OK, 1, 1})
	walk(t, f, step{"\x01\x02\x30", "\x30\x02\x01\x02", api.OK, 1, 1})
	walk(t, g, step{"\x02", "", api.ErrFrameBig, 0, 0})
	walk(t, f, step{"\x00", "\x30\x00", api.OK, 0, 2})
	if err, at := f.Fault(); err != api.OK || at != 0 {
		t.Errorf("the other framer's fault: %d, %d", err, at)
	}
	var group sync.WaitGroup
	for i := range 8 {
		group.Go(func() {
			h := New(most)
			for j := range 500 {
				body := strings.Repeat(string(rune('a'+i)), j%50)
				if messages, err := h.Feed([]byte(message(j%5, body))); err != api.OK || len(messages) != 1 || messages[0] != message(j%5, body) {
					t.Errorf("a framer beside others: %x, %d", messages, err)
				}
			}
		})
	}
	group.Wait()
}

// P3.5: room is kept for the rest alone, not for what was given out, thrown away, or only announced.
func TestRoom(t *testing.T) {
	long := message(4, strings.Repeat("z", 1000000))
	f := New(most)
	f.Feed([]byte(long[:999]))
	if cap(f.held) > 4096 {
		t.Errorf("999 bytes of a long message: room for %d is kept", cap(f.held))
	}
	f.Feed([]byte(long[999:] + "\x30\x05ab"))
	if f.Held() != 4 || cap(f.held) > 64 {
		t.Errorf("behind a long message: %d bytes, room for %d", f.Held(), cap(f.held))
	}
	g := New(most)
	g.Feed([]byte(long[:999999]))
	g.Feed([]byte(long[999999:] + "\x31"))
	if cap(g.held) > 64 {
		t.Errorf("behind a refusal: room for %d is kept", cap(g.held))
	}
	h := New(most)
	h.Feed([]byte("\x30\x84\x7f\xff\xff\xff" + long))
	if cap(h.held) > 64 {
		t.Errorf("of a message that is too long: room for %d is kept", cap(h.held))
	}
}
