package index

import (
	"math/rand"
	"slices"
	"strings"
	"testing"
)

// P11.1: the chapter's examples, the edges, and bytes that are no letters.
func TestGrams(t *testing.T) {
	for _, c := range []struct {
		text string
		want []string
	}{
		{"anana", []string{"ana", "nan"}},
		{"an", nil},
		{"", nil},
		{"a", nil},
		{"ana", []string{"ana"}},
		{"anan", []string{"ana", "nan"}},
		{"aaaaaaaa", []string{"aaa"}},
		{"abcabcabc", []string{"abc", "bca", "cab"}},
		{"cba zyx", []string{" zy", "a z", "ba ", "cba", "zyx"}},
		{"Abc", []string{"Abc"}},
		{"AbCabc", []string{"AbC", "Cab", "abc", "bCa"}},
		{"   ", []string{"   "}},
		{"\x00\xff\x00\xff", []string{"\x00\xff\x00", "\xff\x00\xff"}},
		{"\xffaaaa\x80", []string{"aaa", "aa\x80", "\xffaa"}},
		{"\xc3\xa9\xc3\xa9", []string{"\xa9\xc3\xa9", "\xc3\xa9\xc3"}},
	} {
		holdTexts(t, "Grams of "+c.text, Grams(c.text), c.want)
	}
}

// P11.1: all short texts of a few bytes, the least and the greatest among them.
func TestGramsOfAllShortTexts(t *testing.T) {
	level := []string{""}
	for range 7 {
		var next []string
		for _, text := range level {
			holdTexts(t, "Grams of "+text, Grams(text), slowGrams(text))
			for _, b := range []string{"\x00", "a", "b", "\xff"} {
				next = append(next, text+b)
			}
		}
		level = next
	}
}

// P11.1: long texts.
func TestGramsOfLongTexts(t *testing.T) {
	holdTexts(t, "Grams", Grams(strings.Repeat("ab", 50000)), []string{"aba", "bab"})
	b := make([]byte, 1<<16)
	rand.New(rand.NewSource(111)).Read(b)
	grams := Grams(string(b))
	if !slices.IsSorted(grams) || len(slices.Compact(slices.Clone(grams))) != len(grams) {
		t.Error("the grams are not rising")
	}
	for i := range len(b) - 2 {
		if _, found := slices.BinarySearch(grams, string(b[i:i+3])); !found {
			t.Fatalf("the gram at %d is missing", i)
		}
	}
	seen := map[string]int{}
	for i := range len(b) - 2 {
		seen[string(b[i:i+3])]++
	}
	if len(grams) != len(seen) {
		t.Errorf("%d grams, want %d", len(grams), len(seen))
	}
}

// P11.1, P11.9: an answer is new memory.
func TestGramsAreNewMemory(t *testing.T) {
	first, second := Grams("anana lee"), Grams("anana lee")
	for i := range first[:cap(first)] {
		first[:cap(first)][i] = "spoilt"
	}
	holdTexts(t, "Grams", second, slowGrams("anana lee"))
	holdTexts(t, "Grams", Grams("anana lee"), slowGrams("anana lee"))
}
