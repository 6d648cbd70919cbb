package ldif

import (
	"math/rand"
	"runtime"
	"slices"
	"strings"
	"testing"

	"roster/api"
)

// P7.1: the chapter's examples, and the edges of its words.
func TestLinesTold(t *testing.T) {
	for _, x := range []struct {
		s       string
		lines   []api.Line
		refused fault
	}{
		{"a\n b\r\n\n#c\n  d", lines(1, "ab", 3, "", 4, "#c d"), fault{}},
		{" a", nil, fault{71, 1}},
		{"a\n\n b", nil, fault{71, 3}},
		{"a\n \n b", lines(1, "ab"), fault{}},
		{"a\rb", nil, fault{70, 1}},
		{"a\n\r", nil, fault{70, 2}},
		{"", nil, fault{}},
		{"\n", lines(1, ""), fault{}},
		// With and without a last line end.
		{"a", lines(1, "a"), fault{}},
		{"a\n", lines(1, "a"), fault{}},
		{"a\n\n", lines(1, "a", 2, ""), fault{}},
		{"\n\n\n", lines(1, "", 2, "", 3, ""), fault{}},
		{"a\n ", lines(1, "a"), fault{}},
		{"a\n \n", lines(1, "a"), fault{}},
		{"a\n  \n", lines(1, "a "), fault{}},
		// Both line ends, and both in one text.
		{"a\r\nb\r\n", lines(1, "a", 2, "b"), fault{}},
		{"a\r\nb\nc\r\n", lines(1, "a", 2, "b", 3, "c"), fault{}},
		{"\r\n", lines(1, ""), fault{}},
		{"\r\n\r\n", lines(1, "", 2, ""), fault{}},
		{"a\r\n b\n c\r\n", lines(1, "abc"), fault{}},
		{"a\r\n \r\n b", lines(1, "ab"), fault{}},
		// Returns in every place.
		{"\r", nil, fault{70, 1}},
		{"\ra\n", nil, fault{70, 1}},
		{"a\r", nil, fault{70, 1}},
		{"a\r\r\n", nil, fault{70, 1}},
		{"a\r\n\r", nil, fault{70, 2}},
		{"a\n b\r", nil, fault{70, 2}},
		{"a\n \rb\n", nil, fault{70, 2}},
		{"a\nb\n\r\r\n", nil, fault{70, 3}},
		{"#\r#", nil, fault{70, 1}},
		{"\n\r\n", lines(1, "", 2, ""), fault{}},
		// Lines that go on where none can.
		{" ", nil, fault{71, 1}},
		{" \n", nil, fault{71, 1}},
		{"\n ", nil, fault{71, 2}},
		{"\r\n a", nil, fault{71, 2}},
		{"#c\n\n x", nil, fault{71, 3}},
		{"a\n b\n\n c", nil, fault{71, 4}},
		// A comment, a space alone and a tab are not blank, and a tab does not go on.
		{"#\n a", lines(1, "#a"), fault{}},
		{"#c\n  d\n e\nf", lines(1, "#c de", 4, "f"), fault{}},
		{"\t\n a", lines(1, "\ta"), fault{}},
		{"a\n\tb", lines(1, "a", 2, "\tb"), fault{}},
		{"a\n\n\tb", lines(1, "a", 2, "", 3, "\tb"), fault{}},
		{"a\n #b", lines(1, "a#b"), fault{}},
		// Of two faults the lower line's, of one line the return.
		{" \r", nil, fault{70, 1}},
		{"\n \r", nil, fault{70, 2}},
		{" a\nb\r", nil, fault{71, 1}},
		{"b\r\r\n a\n\n c", nil, fault{70, 1}},
		{"a\n\n b\n\r", nil, fault{71, 3}},
		{"a\n\r\n b\n\r", nil, fault{71, 3}},
		// Bytes that are no UTF-8, and such as look like line ends when read otherwise.
		{"\xff\n \xc3\n\x00", lines(1, "\xff\xc3", 3, "\x00"), fault{}},
		{"\xc3\xa9\xe2\n\x8a\x0b\x0c\xc2\x85\xe2\x80\xa8", lines(1, "\xc3\xa9\xe2", 2, "\x8a\x0b\x0c\xc2\x85\xe2\x80\xa8"), fault{}},
	} {
		got, err, at := Lines(x.s)
		if !slices.Equal(got, x.lines) || (fault{err, at}) != x.refused {
			t.Errorf("Lines(%#v) = %#v, %d, %d; want %#v, %v", x.s, got, err, at, x.lines, x.refused)
		}
		holdLines(t, x.s)
	}
}

// P7.1: every short text of the bytes that matter.
func TestLinesAllThrough(t *testing.T) {
	forAll([]string{"a", " ", "\n", "\r", "#"}, 7, func(s string) { holdLines(t, s) })
}

// P7.1: every byte at every place.
func TestLinesEveryByte(t *testing.T) {
	for _, s := range []string{"", "a\n b\r\n\n#c\n  d", "a\n \n b\n", "\r\n\r\n", "#\n\n\xff"} {
		forAllNear(s, func(s string) { holdLines(t, s) })
	}
}

// P7.1: longer texts, and faults far down.
func TestLinesAtRandom(t *testing.T) {
	r := rand.New(rand.NewSource(71))
	for range 3000 {
		s := someSnapshot(r)
		holdLines(t, s)
		place := r.Intn(len(s) + 1)
		holdLines(t, s[:place]+pick(r, "\r", "\n", " ", "\n ", "\n\n ", "\r\n")+s[place:])
	}
}

// P7.1: the number of a line that is far down.
func TestLinesNumbered(t *testing.T) {
	const n = 70000
	lines, err, _ := Lines(strings.Repeat("a\n b\n", n))
	if len(lines) != n || err != api.OK || lines[n-1] != (api.Line{Number: 2*n - 1, Text: "ab"}) {
		t.Errorf("%d lines, error %d", len(lines), err)
	}
	if _, err, at := Lines(strings.Repeat("a\n", n) + "\r"); err != api.ErrReturn || at != n+1 {
		t.Errorf("error %d, %d", err, at)
	}
}

// taken is how many bytes of memory a call asks for.
func taken(call func()) uint64 {
	var before, after runtime.MemStats
	runtime.ReadMemStats(&before)
	call()
	runtime.ReadMemStats(&after)
	return after.TotalAlloc - before.TotalAlloc
}

// P7.1, P7.2, P7.5: the work grows no faster than the text, whatever it is cut into.
func TestWorkGrowsWithTheText(t *testing.T) {
	const n = 1 << 17
	for _, s := range []string{
		"version: 1\ndn: o=x\no: " + strings.Repeat("x\n ", n),
		"version: 1\ndn: o=x\n" + strings.Repeat("o:\n", n),
		"version: 1\n" + strings.Repeat("dn:\no:\n\n", n),
		"version: 1\ndn:: " + strings.Repeat("Zm9v", n) + "\no:\n",
		"#" + strings.Repeat("\n c", n) + "\nversion: 1\ndn:\no:\n" + strings.Repeat("\n", n),
	} {
		limit := uint64(2000 * len(s))
		if got := taken(func() { Lines(s) }); got > limit {
			t.Errorf("Lines of %d bytes asks for %d", len(s), got)
		}
		if got := taken(func() { Load(s) }); got > limit {
			t.Errorf("Load of %d bytes asks for %d", len(s), got)
		}
		if got := taken(func() { Refold(s, 2) }); got > limit {
			t.Errorf("Refold of %d bytes asks for %d", len(s), got)
		}
		if _, err, at := Load(s); err != api.OK {
			t.Errorf("refused: %d, %d", err, at)
		}
	}
}
