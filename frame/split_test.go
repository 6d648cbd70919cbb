package frame

import (
	"math/rand"
	"strings"
	"testing"

	"roster/api"
)

// P3.2, the chapter's examples and its edges.
func TestSplit(t *testing.T) {
	for _, x := range []struct {
		limit    int
		stream   string
		messages string
		at       int
		err      api.Errno
	}{
		{most, "", "", 0, api.OK},
		{most, "\x30\x00\x30\x01\x05\x30\x02\x07", "\x30\x00|\x30\x01\x05", 5, api.OK},
		{most, "\x30\x00\x30", "\x30\x00", 2, api.OK},
		{most, "\x30\x03\x30\x80\xff", "\x30\x03\x30\x80\xff", 5, api.OK}, // what stands inside a message is not looked at
		{most, "\x30\x82\x00\x01\x09\x30\x81\x00", "\x30\x82\x00\x01\x09|\x30\x81\x00", 8, api.OK},
		{most, "\x30\x84\xff\xff\xff", "", 0, api.OK},
		{0, "\x30\x84\x00\x00\x00", "", 0, api.OK},
		{6, "\x30\x84\x00\x00\x00\x00", "\x30\x84\x00\x00\x00\x00", 6, api.OK},
		{1, "\x30", "", 0, api.OK},

		{most, "\x30\x00\x04\x00", "\x30\x00", 2, api.ErrFirst},
		{most, "\x02\x80", "", 0, api.ErrFirst},
		{most, "\x00", "", 0, api.ErrFirst},
		{most, "\x30\x80\x00\x00", "", 0, api.ErrFrameIndefinite},
		{most, "\x30\x01a\x30\x80", "\x30\x01a", 3, api.ErrFrameIndefinite},
		{most, "\x30\x85", "", 0, api.ErrFrameLength},
		{most, "\x30\x85\x00\x00\x00\x00\x00\x30\x00", "", 0, api.ErrFrameLength},
		{most, "\x30\x00\x30\xff\x30\x00", "\x30\x00", 2, api.ErrFrameLength},
		{most, "\x30\x84\xff\xff\xff\xff", "", 0, api.ErrFrameBig},
		{1, "\x30\x00", "", 0, api.ErrFrameBig},
		{0, "\x30\x00", "", 0, api.ErrFrameBig},
		{-3, "\x30\x00", "", 0, api.ErrFrameBig},
		{2, "\x30\x00\x30\x01", "\x30\x00", 2, api.ErrFrameBig},
		{5, "\x30\x84\x00\x00\x00\x00", "", 0, api.ErrFrameBig},
		{3, "\x30\x81\x01\x00", "", 0, api.ErrFrameBig},
	} {
		got := Split(x.limit, x.stream)
		if strings.Join(got.Messages, "|") != x.messages || got.At != x.at || got.Err != x.err {
			t.Errorf("Split(%d, %x) = %x; want %x, %d, %d", x.limit, x.stream, got, x.messages, x.at, x.err)
		}
	}
}

// P3.2: every short stream, at every limit.
func TestSplitEveryStream(t *testing.T) {
	forAll("\x30\x00\x01\x03\x80\x81\x82\x84\x85", 5, func(stream string) {
		for _, limit := range limits {
			if got, want := Split(limit, stream), slowCut(limit, stream); !sameCut(got, want) {
				t.Fatalf("Split(%d, %x) = %x, want %x", limit, stream, got, want)
			}
		}
	})
}

// P3.2: the messages and the rest are the stream.
func TestSplitWhole(t *testing.T) {
	r := rand.New(rand.NewSource(3))
	for range 3000 {
		stream := someStream(r)
		got := Split(most, stream)
		if want := slowCut(most, stream); !sameCut(got, want) {
			t.Fatalf("Split(%x) = %x, want %x", stream, got, want)
		}
		if strings.Join(got.Messages, "")+stream[got.At:] != stream {
			t.Fatalf("Split(%x) = %x loses bytes", stream, got)
		}
	}
}

// P3.2: the greatest messages of each form of header, and one byte more.
func TestSplitGreatest(t *testing.T) {
	for further, limit := range []int{129, 258, 65539, most, most} {
		body := strings.Repeat("z", limit-2-further)
		stream := message(further, body)
		if got := Split(limit, stream+"\x30"); len(got.Messages) != 1 || got.Messages[0] != stream || got.At != limit || got.Err != api.OK {
			t.Errorf("%d further bytes: %d messages, %d, %d", further, len(got.Messages), got.At, got.Err)
		}
		if got := Split(limit-1, stream); len(got.Messages) != 0 || got.At != 0 || got.Err != api.ErrFrameBig {
			t.Errorf("%d further bytes, a byte too many: %d messages, %d, %d", further, len(got.Messages), got.At, got.Err)
		}
	}
}

// P0.1: no two answers share a list, spare room too.
func TestSplitAnswersAreNew(t *testing.T) {
	stream := strings.Repeat("\x30\x01a", 5)
	one, two := Split(most, stream), Split(most, stream)
	clear(one.Messages[:cap(one.Messages)])
	want := slowCut(most, stream)
	if three := Split(most, stream); !sameCut(two, want) || !sameCut(three, want) {
		t.Error("two cuts share memory")
	}
}
