package ldif

import (
	"math"
	"math/rand"
	"strings"
	"testing"

	"roster/api"
)

// P7.5: the chapter's examples, and lines that just fit.
func TestRefoldTold(t *testing.T) {
	for _, x := range []struct {
		s     string
		width int
		want  string
	}{
		{"abcdef\n#xyz", 3, "abc\n de\n f\n#xy\n z\n"},
		{"\r\nab\n c", 80, "\nabc\n"},
		{"", 2, ""}, {"\n", 2, "\n"}, {"\n\n", 2, "\n\n"},
		{"a", 2, "a\n"}, {"ab", 2, "ab\n"}, {"abc", 2, "ab\n c\n"}, {"abcd", 2, "ab\n c\n d\n"},
		{"abc", 3, "abc\n"}, {"abcd", 3, "abc\n d\n"}, {"abcde", 3, "abc\n de\n"}, {"abcdef", 3, "abc\n de\n f\n"},
		{"abcd", 4, "abcd\n"}, {"abcde", 4, "abcd\n e\n"}, {"abcdefg", 4, "abcd\n efg\n"}, {"abcdefgh", 4, "abcd\n efg\n h\n"},
		{"a  b", 2, "a \n  \n b\n"}, {"a\n  \n  ", 2, "a \n  \n"},
		{"a\xc3\xa9", 2, "a\xc3\n \xa9\n"}, {"\xff\xfe\xfd", 2, "\xff\xfe\n \xfd\n"},
		{"a\r\n\r\nb\n c\n \n d\r\n", 76, "a\n\nbcd\n"},
		{"a", math.MaxInt, "a\n"},
	} {
		got, err, at := Refold(x.s, x.width)
		if got != x.want || err != api.OK || at != 0 {
			t.Errorf("Refold(%q, %d) = %q, %d, %d; want %q", x.s, x.width, got, err, at, x.want)
		}
		holdRefold(t, x.s, x.width)
	}
}

// P7.5: a width below 2 is told ahead of the text's own fault, and that one with its line.
func TestRefoldRefused(t *testing.T) {
	for _, x := range []struct {
		s     string
		width int
		want  fault
	}{
		{"a", 1, fault{1, 0}}, {" a", 9, fault{71, 1}},
		{"", 1, fault{1, 0}}, {"a", 0, fault{1, 0}}, {"a", -1, fault{1, 0}}, {"a", math.MinInt, fault{1, 0}},
		{" a", 1, fault{1, 0}}, {"\r", 0, fault{1, 0}},
		{"a\n\n b", 2, fault{71, 3}}, {"a\n\r", 2, fault{70, 2}}, {" \r", 2, fault{70, 1}}, {"a\r\r\n", math.MaxInt, fault{70, 1}},
	} {
		got, err, at := Refold(x.s, x.width)
		if got != "" || (fault{err, at}) != x.want {
			t.Errorf("Refold(%q, %d) = %q, %d, %d; want %v", x.s, x.width, got, err, at, x.want)
		}
	}
}

// P7.5: lines of every length at every width.
func TestRefoldEveryWidth(t *testing.T) {
	line := "abcdefghijklmnopqrstuvwxyz 0123456789"
	for width := -3; width <= len(line)+3; width++ {
		for n := range len(line) + 1 {
			holdRefold(t, line[:n], width)
			holdRefold(t, "\n"+line[:n]+"\n\n#"+line[:n]+"\r\n", width)
		}
	}
}

// P7.5: every short text of the bytes that matter.
func TestRefoldAllThrough(t *testing.T) {
	forAll([]string{"ab", " ", "\n", "\r\n", "#"}, 6, func(s string) {
		for width := 1; width <= 5; width++ {
			holdRefold(t, s, width)
		}
	})
}

// P7.5: snapshots at random keep their records at any width.
func TestRefoldAtRandom(t *testing.T) {
	r := rand.New(rand.NewSource(76))
	for range 5000 {
		s := someSnapshot(r)
		for _, width := range []int{2, 3, 2 + r.Intn(20), api.WrapWidth, math.MaxInt} {
			holdRefold(t, s, width)
		}
	}
}

// P7.5: a long line about its width.
func TestRefoldLong(t *testing.T) {
	for _, n := range []int{75, 76, 77, 150, 151, 152, 153, 100000} {
		holdRefold(t, strings.Repeat("x", n), api.WrapWidth)
		holdRefold(t, strings.Repeat("x", n), n)
		holdRefold(t, strings.Repeat("x", n), n-1)
		holdRefold(t, strings.Repeat("x", n), n+1)
	}
}
