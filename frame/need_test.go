package frame

import (
	"math"
	"strings"
	"testing"
)

// P3.1, the chapter's examples and its edges: every form of header, zeros at the length's front, limits below 2.
func TestNeed(t *testing.T) {
	for _, x := range []struct {
		limit int
		b     string
		want  int
	}{
		{most, "", 2}, {most, "\x30", 1},
		{most, "\x30\x03\x02", 2}, {most, "\x30\x03\x02\x01\x01", 0}, {most, "\x30\x03\x02\x01\x01\x30", 0},
		{most, "\x30\x00", 0}, {most, "\x30\x7f", 127},
		{most, "\x30\x81", 1}, {most, "\x30\x81\x00", 0}, {most, "\x30\x81\xff", 255}, {most, "\x30\x81\x02a", 1},
		{most, "\x30\x82", 2}, {most, "\x30\x82\x01", 257}, {most, "\x30\x82\x00", 1}, {most, "\x30\x82\x00\x03", 3}, {most, "\x30\x82\x01\x02", 258},
		{most, "\x30\x83", 3}, {most, "\x30\x83\x01", 65538}, {most, "\x30\x83\x01\x02", 66049}, {most, "\x30\x83\x01\x02\x03", 66051},
		{most, "\x30\x84", 4}, {most, "\x30\x84\x01", 16777219}, {most, "\x30\x84\x00\x01", 65538}, {most, "\x30\x84\x00\x01\x02", 66049}, {most, "\x30\x84\x00\x01\x02\x03", 66051},
		{most, "\x30\x84\xff", 4278190083}, {most, "\x30\x84\xff\xff\xff", 4294967041}, {most, "\x30\x84\xff\xff\xff\xff", 0},
		{most, "\x30\x80", 0}, {most, "\x31", 0}, {most, "\x30\x85", 0}, {most, "\x30\xff", 0}, {most, "\x00", 0}, {most, "\xff\x03", 0},
		{most, "\x30\x83\x0f\xff\xfb", 1048571}, {most, "\x30\x83\x0f\xff\xfc", 0},
		{most, "\x30\x84\x00\x0f\xff\xfa", 1048570}, {most, "\x30\x84\x00\x0f\xff\xfb", 0},
		{4, "\x30\x02", 2}, {4, "\x30\x03", 0},
		{1, "", 2}, {0, "", 2}, {-7, "", 2}, {1, "\x30", 1}, {0, "\x30", 1}, {-7, "\x30", 1}, {1, "\x30\x00", 0}, {2, "\x30\x00", 0}, {2, "\x30\x01", 0},
		{0, "\x30\x84", 4}, {-7, "\x30\x84\x00\x00\x01", 257}, {0, "\x30\x84\x00\x00\x00\x00", 0},
		{math.MaxInt, "\x30\x84\xff\xff\xff\xff", 4294967295}, {4294967301, "\x30\x84\xff\xff\xff\xff", 4294967295}, {4294967300, "\x30\x84\xff\xff\xff\xff", 0},
		{math.MinInt, "\x30\x00", 0}, {math.MinInt, "\x30\x82\x01", 257},
	} {
		if n := Need(x.limit, x.b); n != x.want {
			t.Errorf("Need(%d, %x) = %d, want %d", x.limit, x.b, n, x.want)
		}
	}
}

// P3.1: every first byte with every length byte, and every number of bytes behind them, at every limit.
func TestNeedEveryByte(t *testing.T) {
	for first := range 256 {
		for second := range 256 {
			whole := string([]byte{byte(first), byte(second), 0, 1, 0, 3, 0x30, 0x00})
			for size := range len(whole) + 1 {
				for _, limit := range limits {
					if n, want := Need(limit, whole[:size]), slowNeed(limit, whole[:size]); n != want {
						t.Fatalf("Need(%d, %x) = %d, want %d", limit, whole[:size], n, want)
					}
				}
			}
		}
	}
}

// P3.1: as many bytes as Need tells, and no fewer, make a message whole; those that it doesn't know of are zeros here.
func TestNeedIsEnough(t *testing.T) {
	forAll("\x30\x00\x01\x02\x7f\x81\x82\x83", 4, func(b string) {
		n := Need(most, b)
		if n == 0 || n > 1000 {
			return
		}
		stream := b + strings.Repeat("\x00", n)
		if len(b) == 0 {
			stream = "\x30\x00"
		}
		if got := Split(most, stream); got.At != len(stream) || len(got.Messages) != 1 {
			t.Fatalf("Need(%x) = %d, and Split(%x) = %x", b, n, stream, got)
		}
		if got := Split(most, stream[:len(stream)-1]); got.At != 0 || got.Err != 0 {
			t.Fatalf("Need(%x) = %d, but a byte less is cut to %x", b, n, got)
		}
	})
}
