package ber

import (
	"math"
	"math/big"
	"math/rand"
	"testing"

	"roster/api"
)

// meaning is the number that bytes mean in two's complement.
func meaning(body string) *big.Int {
	n := new(big.Int).SetBytes([]byte(body))
	if len(body) > 0 && body[0] >= 0x80 {
		n.Sub(n, new(big.Int).Lsh(big.NewInt(1), uint(8*len(body))))
	}
	return n
}

// isShortest says, bit by bit, whether not all of the first nine bits are the same.
func isShortest(body string) bool {
	if len(body) < 2 {
		return true
	}
	first := int(body[0])<<1 | int(body[1])>>7
	return first != 0 && first != 0x1ff
}

func checkInt(t *testing.T, body string) {
	t.Helper()
	n, err := Int(body)
	if len(body) == 0 || len(body) > 8 || !isShortest(body) {
		if n != 0 || err != api.ErrContent {
			t.Fatalf("Int(%q) = %d, %d; want ErrContent", body, n, err)
		}
		return
	}
	if err != api.OK || meaning(body).Cmp(big.NewInt(n)) != 0 {
		t.Fatalf("Int(%q) = %d, %d; want %v", body, n, err, meaning(body))
	}
	if PutInt(n) != body {
		t.Fatalf("PutInt(%d) = %q; want %q", n, PutInt(n), body)
	}
}

// P2.7, the chapter's examples and the edges.
func TestInt(t *testing.T) {
	for _, x := range []struct {
		body string
		want int64
	}{
		{"\x00", 0}, {"\x7f", 127}, {"\x80", -128}, {"\xff", -1},
		{"\x00\x80", 128}, {"\xff\x7f", -129}, {"\x01\x00", 256}, {"\x80\x00", -32768}, {"\x00\xff", 255},
		{"\x7f\xff\xff\xff\xff\xff\xff\xff", math.MaxInt64}, {"\x80\x00\x00\x00\x00\x00\x00\x00", math.MinInt64},
		{"\x00\x80\x00\x00\x00\x00\x00\x00", 1 << 55},
	} {
		if n, err := Int(x.body); n != x.want || err != api.OK {
			t.Errorf("Int(%q) = %d, %d; want %d", x.body, n, err, x.want)
		}
		if body := PutInt(x.want); body != x.body {
			t.Errorf("PutInt(%d) = %q; want %q", x.want, body, x.body)
		}
	}
	for _, body := range []string{"", "\x00\x00", "\x00\x7f", "\xff\xff", "\xff\x80", "\x00\x00\x80", "\xff\xff\x7f", "\x01\x00\x00\x00\x00\x00\x00\x00\x00", "\x00\x80\x00\x00\x00\x00\x00\x00\x00", "\xff\x7f\xff\xff\xff\xff\xff\xff\xff"} {
		if n, err := Int(body); n != 0 || err != api.ErrContent {
			t.Errorf("Int(%q) = %d, %d; want ErrContent", body, n, err)
		}
	}
}

// P2.7 at all contents of one and two bytes, at many longer ones, and at numbers about every power of two.
func TestIntEverywhere(t *testing.T) {
	for i := range 256 {
		checkInt(t, string([]byte{byte(i)}))
	}
	for i := range 65536 {
		checkInt(t, string([]byte{byte(i >> 8), byte(i)}))
	}
	forAll("\x00\x01\x7f\x80\xff", 6, func(s string) { checkInt(t, s) })
	r := rand.New(rand.NewSource(5))
	for range 20000 {
		body := make([]byte, r.Intn(11))
		for i := range body {
			body[i] = "\x00\x01\x7f\x80\xfe\xff"[r.Intn(6)]
		}
		checkInt(t, string(body))
	}
	for shift := range 64 {
		for off := int64(-2); off <= 2; off++ {
			for _, n := range []int64{1<<shift + off, -1<<shift + off} {
				body := PutInt(n)
				if m, err := Int(body); m != n || err != api.OK {
					t.Fatalf("Int(PutInt(%d)) = %d, %d", n, m, err)
				}
				checkInt(t, body)
			}
		}
	}
}

// P2.8, ordinary inputs, the chapter's examples, and wrong inputs.
func TestBool(t *testing.T) {
	for i := range 256 {
		body := string([]byte{byte(i)})
		if v, err := Bool(body); v != (i != 0) || err != api.OK {
			t.Errorf("Bool(%q) = %v, %d", body, v, err)
		}
		for _, more := range []string{"\x00", "\x01", "\xff\xff"} {
			if v, err := Bool(body + more); v || err != api.ErrContent {
				t.Errorf("Bool(%q) = %v, %d; want ErrContent", body+more, v, err)
			}
		}
	}
	if v, err := Bool(""); v || err != api.ErrContent {
		t.Errorf("Bool of no byte = %v, %d; want ErrContent", v, err)
	}
	if PutBool(true) != "\xff" || PutBool(false) != "\x00" {
		t.Errorf("PutBool: %q, %q", PutBool(true), PutBool(false))
	}
}
