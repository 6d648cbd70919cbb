package match

import (
	"math/rand"
	"strings"
	"testing"

	"roster/api"
)

// P6.2
func TestOrderedAndPartial(t *testing.T) {
	for _, s := range allSyntaxes() {
		row := slowOf(s)
		if got, want := Ordered(s), row.order == "bytes" || row.order == "numbers"; got != want {
			t.Errorf("Ordered(%d) = %v", s, got)
		}
		if got := Partial(s); got != row.pieces {
			t.Errorf("Partial(%d) = %v", s, got)
		}
	}
}

// P6.3: the chapter's examples, and more of their kind.
func TestCompareExamples(t *testing.T) {
	for _, c := range []struct {
		s    api.Syntax
		a, b string
		want int
	}{
		{api.SynInteger, "-12", "-2", -1},
		{api.SynInteger, "10", "9", 1},
		{api.SynInteger, "0", "-1", 1},
		{api.SynInteger, "-1", "0", -1},
		{api.SynInteger, "0", "0", 0},
		{api.SynInteger, "9223372036854775808", "9223372036854775807", 1},
		{api.SynInteger, "-9223372036854775809", "-9223372036854775808", -1},
		{api.SynInteger, "18446744073709551616", "0", 1},
		// One that is no number: both as bytes.
		{api.SynInteger, "10", "09", 1},
		{api.SynInteger, "10", "9x", -1},
		{api.SynInteger, "-0", "-12", -1},
		{api.SynInteger, "", "-12", -1},
		{api.SynText, "ab", "abc", -1},
		{api.SynText, "b", "abc", 1},
		{api.SynText, "B", "a", -1},
		{api.SynExact, "B", "a", -1},
		{api.SynNumeric, "10", "9", -1},
		{api.SynOctet, "\xff", "a", 1},
		{api.SynOctet, "", "\x00", -1},
		{api.SynTime, "20240101000000", "20240101000000.5", -1},
		{api.SynTime, "20240101000000.45", "20240101000000.5", -1},
		{api.SynBoolean, "FALSE", "TRUE", 0},
		{api.SynIA5, "a", "b", 0},
		{api.SynName, "o=a", "o=b", 0},
		{api.SynNone, "a", "b", 0},
		{15, "a", "b", 0},
		{-1, "a", "b", 0},
	} {
		if got := Compare(c.s, c.a, c.b); got != c.want {
			t.Errorf("Compare(%d, %q, %q) = %d; want %d", c.s, c.a, c.b, got, c.want)
		}
	}
}

// P6.3: every syntax at whatever texts.
func TestCompareAtRandom(t *testing.T) {
	r := rand.New(rand.NewSource(64))
	for _, s := range allSyntaxes() {
		for range 3000 {
			a, b := someValue(r), someValue(r)
			holdCompare(t, s, a, b)
			holdCompare(t, s, a, a)
		}
	}
	forAll("-01a", 3, func(a string) {
		forAll("-01a", 3, func(b string) { holdCompare(t, api.SynInteger, a, b) })
	})
}

// someNumber is a whole number of up to 25 digits.
func someNumber(r *rand.Rand) string {
	out := pick(r, "", "-") + pick(r, "1", "2", "9")
	for range r.Intn(25) {
		out += pick(r, "0", "1", "9")
	}
	return out
}

// P6.3: numbers of any length and sign, those next to each other and those that share their front too.
func TestCompareNumbers(t *testing.T) {
	r := rand.New(rand.NewSource(65))
	for range 20000 {
		a := someNumber(r)
		b := pick(r, someNumber(r), a[:len(a)-1]+pick(r, "0", "1", "9"), a+"0", "0")
		holdCompare(t, api.SynInteger, a, b)
		holdCompare(t, api.SynInteger, b, a)
		holdTruths(t, api.SynInteger, a, b)
	}
	const many = 100000
	long := "1" + strings.Repeat("0", many)
	for _, c := range [][2]string{{long, long + "0"}, {long, long[:many] + "1"}, {"-" + long, "-" + long[:many] + "1"}, {"-" + long, long}, {long, long}} {
		holdCompare(t, api.SynInteger, c[0], c[1])
		holdCompare(t, api.SynInteger, c[1], c[0])
	}
}
