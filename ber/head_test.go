package ber

import (
	"testing"

	"roster/api"
)

// P2.1, ordinary inputs and the chapter's examples.
func TestHead(t *testing.T) {
	for _, x := range []struct {
		b    string
		want api.Header
	}{
		{"\x30\x82\x00\x03", api.Header{Class: u, Made: true, Tag: 16, Length: 3, Size: 4}},
		{"\x87\x00zz", api.Header{Class: c, Tag: 7, Length: 0, Size: 2}},
		{"\x02\x01", api.Header{Class: u, Tag: 2, Length: 1, Size: 2}}, // the content is not asked for
		{"\x04\x7f", api.Header{Class: u, Tag: 4, Length: 127, Size: 2}},
		{"\x04\x81\x00", api.Header{Class: u, Tag: 4, Length: 0, Size: 3}},
		{"\x04\x81\x80", api.Header{Class: u, Tag: 4, Length: 128, Size: 3}},
		{"\x04\x81\xff", api.Header{Class: u, Tag: 4, Length: 255, Size: 3}},
		{"\x04\x82\xff\xfe", api.Header{Class: u, Tag: 4, Length: 0xfffe, Size: 4}},
		{"\x04\x83\x01\x02\x03", api.Header{Class: u, Tag: 4, Length: 0x010203, Size: 5}},
		{"\x04\x83\x00\x00\x03", api.Header{Class: u, Tag: 4, Length: 3, Size: 5}},
		{"\x04\x84\x01\x02\x03\x04", api.Header{Class: u, Tag: 4, Length: 0x01020304, Size: 6}},
		{"\x04\x84\xff\xff\xff\xff", api.Header{Class: u, Tag: 4, Length: 4294967295, Size: 6}},
		{"\x00\x00", api.Header{Class: u, Tag: 0, Size: 2}},
		{"\xfe\x00", api.Header{Class: p, Made: true, Tag: 30, Size: 2}},
	} {
		if h, err := Head(x.b); h != x.want || err != api.OK {
			t.Errorf("Head(%q) = %v, %d; want %v", x.b, h, err, x.want)
		}
	}
}

// P2.1, wrong inputs: the order of the rules 2 to 6, and a zero header beside every error.
func TestHeadRefuses(t *testing.T) {
	for _, x := range []struct {
		b    string
		want api.Errno
	}{
		{"", api.ErrShort}, {"\x30", api.ErrShort}, {"\x30\x81", api.ErrShort}, {"\x30\x82\x00", api.ErrShort},
		{"\x30\x83\x00\x00", api.ErrShort}, {"\x30\x84\x00\x00\x00", api.ErrShort},
		{"\x1f", api.ErrTag}, {"\x3f\x80", api.ErrTag}, {"\xff\x85", api.ErrTag}, {"\x9f\x00", api.ErrTag}, {"\x5f\x82", api.ErrTag},
		{"\x30\x80", api.ErrIndefinite}, {"\x04\x80\x00\x00", api.ErrIndefinite},
		{"\x30\x85", api.ErrLength}, {"\x30\x85\x00\x00\x00\x00\x01", api.ErrLength}, {"\x30\x90", api.ErrLength}, {"\x30\xff", api.ErrLength},
	} {
		if h, err := Head(x.b); h != (api.Header{}) || err != x.want {
			t.Errorf("Head(%q) = %v, %d; want %d", x.b, h, err, x.want)
		}
	}
}

// P2.1: every tag byte with every length byte, all bytes of the length there but the last missing ones.
func TestHeadEveryByte(t *testing.T) {
	for first := range 256 {
		for second := range 256 {
			whole := string([]byte{byte(first), byte(second), 1, 2, 3, 4, 5})
			for size := range len(whole) + 1 {
				b := whole[:size]
				h, err := Head(b)
				want, wantErr, _ := slowRule(b, 0, len(b), 1, api.ErrShort, 2, 6)
				if h != want || err != wantErr {
					t.Fatalf("Head(%q) = %v, %d; want %v, %d", b, h, err, want, wantErr)
				}
			}
		}
	}
}
