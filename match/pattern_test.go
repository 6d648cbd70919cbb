package match

import (
	"math/rand"
	"strings"
	"testing"

	"roster/api"
)

// P6.4: the chapter's examples, and more of their kind.
func TestPartsExamples(t *testing.T) {
	none := api.Pattern{}
	for _, c := range []struct {
		s    api.Syntax
		p    api.Pattern
		want api.Pattern
		ok   bool
	}{
		{api.SynText, pattern("  A  b ", []string{"C  "}, "  d "), pattern("a b ", []string{"c "}, " d"), true},
		{api.SynText, none, none, false},
		{api.SynText, pattern("", []string{}, ""), none, false},
		{api.SynText, pattern("  ", nil, ""), none, true},
		{api.SynText, pattern("", nil, " \t"), none, true},
		{api.SynText, pattern("", []string{""}, ""), pattern("", []string{""}, ""), true},
		{api.SynText, pattern("", []string{" ", "", "\n\n"}, ""), pattern("", []string{" ", "", " "}, ""), true},
		{api.SynText, pattern("a", []string{"b", "\xc3"}, ""), none, false},
		// The two halves of one letter are no UTF-8, each by itself.
		{api.SynExact, pattern("\xc3", nil, "\xa9"), none, false},
		{api.SynExact, pattern(" A ", []string{" B "}, " C "), pattern("A ", []string{" B "}, " C"), true},
		{api.SynIA5, pattern(" A ", []string{" B "}, " C "), pattern("a ", []string{" b "}, " c"), true},
		{api.SynIA5, pattern("", nil, "\x80"), none, false},
		{api.SynIA5Exact, pattern(" A ", []string{" B "}, " C "), pattern("A ", []string{" B "}, " C"), true},
		{api.SynIA5Exact, pattern("\u00c4", nil, ""), none, false},
		{api.SynNumeric, pattern(" 1 2 ", []string{" "}, "3"), pattern("12", []string{""}, "3"), true},
		{api.SynNumeric, pattern("1", []string{"\t"}, ""), none, false},
		{api.SynPhone, pattern("+1 -", []string{" - ", "X-y"}, "(2)"), pattern("+1", []string{"", "xy"}, "(2)"), true},
		{api.SynPhone, pattern("+1", nil, "*"), none, false},
		{api.SynOctet, pattern(" A\xff ", []string{" \t"}, " "), pattern(" A\xff ", []string{" \t"}, " "), true},
		{api.SynOctet, none, none, false},
		{api.SynBoolean, pattern("T", nil, ""), none, false},
		{api.SynInteger, pattern("", []string{"1"}, ""), none, false},
		{api.SynName, pattern("", nil, "o=b"), none, false},
		{api.SynOID, pattern("2", nil, ""), none, false},
		{api.SynTime, pattern("2024", nil, ""), none, false},
		{api.SynList, pattern("a", nil, ""), none, false},
		{api.SynBits, pattern("'", nil, ""), none, false},
		{api.SynNone, pattern("a", nil, ""), none, false},
		{15, pattern("a", nil, ""), none, false},
		{-1, pattern("a", nil, ""), none, false},
	} {
		if got, ok := Parts(c.s, c.p); !samePattern(got, c.want) || ok != c.ok {
			t.Errorf("Parts(%d, %q) = %q, %v; want %q, %v", c.s, c.p, got, ok, c.want, c.ok)
		}
		holdParts(t, c.s, c.p)
	}
}

// P6.4: every byte at every place of a piece, at each of the three seats.
func TestPartsOfEveryByte(t *testing.T) {
	for _, s := range allSyntaxes() {
		for _, piece := range []string{"", " ", "1 2", " A  b "} {
			forAllNear(piece, func(near string) {
				holdParts(t, s, pattern(near, nil, ""))
				holdParts(t, s, pattern("", nil, near))
				holdParts(t, s, pattern("1", []string{"2", near}, ""))
			})
		}
	}
}

// P6.4: patterns at random.
func TestPartsAtRandom(t *testing.T) {
	r := rand.New(rand.NewSource(66))
	for _, s := range allSyntaxes() {
		for range 3000 {
			holdParts(t, s, somePattern(r, someText))
			holdParts(t, s, somePattern(r, func(r *rand.Rand) string { return pick(r, "1", " ", "2 3", "  4", "") }))
		}
	}
}

// P6.5: the chapter's examples, and more of their kind.
func TestFitsExamples(t *testing.T) {
	for _, c := range []struct {
		normal string
		p      api.Pattern
		want   bool
	}{
		{"abcabc", pattern("ab", []string{"c"}, "bc"), true},
		{"abab", pattern("ab", []string{"ba"}, "ab"), false},
		{"aba", pattern("ab", nil, "ba"), false},
		{"abba", pattern("ab", nil, "ba"), true},
		{"", api.Pattern{}, true},
		{"a", api.Pattern{}, true},
		{"", pattern("", []string{"", ""}, ""), true},
		{"", pattern("", []string{"a"}, ""), false},
		{"a", pattern("a", nil, "a"), false},
		{"aa", pattern("a", nil, "a"), true},
		{"aa", pattern("a", []string{""}, "a"), true},
		{"aa", pattern("a", []string{"a"}, "a"), false},
		{"aaa", pattern("", []string{"aa", "aa"}, ""), false},
		{"aaaa", pattern("", []string{"aa", "aa"}, ""), true},
		{"xyxyz", pattern("", []string{"xyz"}, ""), true},
		{"ab", pattern("", []string{"b", "a"}, ""), false},
		{"A", pattern("a", nil, ""), false},
		{"a  b", pattern("a b", nil, ""), false},
		{"\xff\x80", pattern("\xff", nil, "\x80"), true},
	} {
		if got := Fits(c.normal, c.p); got != c.want {
			t.Errorf("Fits(%q, %q) = %v", c.normal, c.p, got)
		}
		holdFits(t, c.normal, c.p)
	}
}

// P6.5: every short text, and every pattern of short pieces.
func TestFitsOfShortTexts(t *testing.T) {
	var short []string
	forAll("ab", 2, func(s string) { short = append(short, s) })
	forAll("ab", 5, func(normal string) {
		for _, initial := range short {
			for _, final := range short {
				holdFits(t, normal, pattern(initial, nil, final))
				for _, one := range short {
					holdFits(t, normal, pattern(initial, []string{one}, final))
				}
			}
		}
		for _, one := range short {
			for _, two := range short {
				holdFits(t, normal, pattern("", []string{one, two}, "a"))
				holdFits(t, normal, pattern("b", []string{one, two, one}, ""))
			}
		}
	})
}

// P6.5: many pieces, and pieces that nearly are there, are no long work.
func TestFitsOfLongTexts(t *testing.T) {
	const many = 100000
	long := strings.Repeat("a", many) + "b"
	inner := make([]string, many)
	for i := range inner {
		inner[i] = "a"
	}
	for _, c := range []struct {
		p    api.Pattern
		want bool
	}{
		{pattern("", inner, "b"), true},
		{pattern("a", inner, "b"), false},
		{pattern("a", inner, ""), false},
		{pattern("", []string{strings.Repeat("a", many/2) + "b"}, ""), true},
		{pattern("", []string{strings.Repeat("a", many/2) + "c"}, ""), false},
		{pattern(long, nil, ""), true},
		{pattern(long, nil, "b"), false},
	} {
		if got := Fits(long, c.p); got != c.want {
			t.Errorf("Fits is %v", got)
		}
	}
}

// P6.8: the chapter's examples, and more of their kind.
func TestContainsExamples(t *testing.T) {
	for _, c := range []struct {
		s     api.Syntax
		value string
		p     api.Pattern
		want  api.Truth
	}{
		{api.SynPhone, "+1 555-0102", pattern("", []string{"55 50-1"}, ""), api.True},
		{api.SynText, "a", pattern("  ", nil, ""), api.True},
		{api.SynText, " ", pattern("  ", nil, ""), api.True},
		{api.SynText, "", pattern("  ", nil, ""), api.False},
		{api.SynText, "\xff", pattern("", []string{""}, ""), api.False},
		{api.SynText, "Ann  Bo", pattern("ann ", nil, "o"), api.True},
		{api.SynText, "Ann", pattern("ann ", nil, ""), api.False},
		{api.SynText, "AnnBo", pattern("", []string{" b"}, ""), api.False},
		{api.SynExact, "Ann", pattern("a", nil, ""), api.False},
		{api.SynText, "a", api.Pattern{}, api.Undefined},
		{api.SynText, "", api.Pattern{}, api.Undefined},
		{api.SynText, "a", pattern("\xff", nil, ""), api.Undefined},
		{api.SynText, "", pattern("\xff", nil, ""), api.Undefined},
		{api.SynInteger, "12", pattern("1", nil, ""), api.Undefined},
		{api.SynNone, "a", pattern("a", nil, ""), api.Undefined},
		{15, "a", pattern("a", nil, ""), api.Undefined},
		{api.SynOctet, "", pattern("", []string{""}, ""), api.True},
		{api.SynOctet, "a b", pattern("a ", nil, " b"), api.False},
		{api.SynIA5, "", pattern("", nil, " "), api.True},
	} {
		if got := Contains(c.s, c.value, c.p); got != c.want {
			t.Errorf("Contains(%d, %q, %q) = %d; want %d", c.s, c.value, c.p, got, c.want)
		}
		holdContains(t, c.s, c.value, c.p)
	}
}

// P6.8: values against patterns of pieces of values.
func TestContainsAtRandom(t *testing.T) {
	r := rand.New(rand.NewSource(67))
	for _, s := range allSyntaxes() {
		for range 5000 {
			value := someValue(r)
			cut := func(r *rand.Rand) string {
				from := r.Intn(len(value) + 1)
				return value[from : from+r.Intn(min(3, len(value)-from)+1)]
			}
			holdContains(t, s, value, somePattern(r, cut))
			holdContains(t, s, value, somePattern(r, someText))
			if len(value) > 1 {
				holdContains(t, s, value, pattern(value[:1], []string{value[1:2]}, value[2:]))
			}
		}
	}
}
