// Package text is layer 1: see shared/doc/01-text.md.
package text

import "strings"

// Fold turns the letters A to Z into a to z.
func Fold(s string) string {
	out := []byte(s)
	for i, b := range out {
		if 'A' <= b && b <= 'Z' {
			out[i] = b + ('a' - 'A')
		}
	}
	return string(out)
}

// Collapse makes every run of blanks one space.
func Collapse(s string) string {
	out := make([]byte, 0, len(s))
	inRun := false
	// Bytes, not runes: a text that is no UTF-8 must keep its bytes.
	for i := 0; i < len(s); i++ {
		switch {
		case !blank(s[i]):
			out = append(out, s[i])
			inRun = false
		case !inRun:
			out = append(out, ' ')
			inRun = true
		}
	}
	return string(out)
}

// Squeeze is Collapse without a space at either end.
func Squeeze(s string) string {
	return strings.TrimSuffix(strings.TrimPrefix(Collapse(s), " "), " ")
}

// Normal is Squeeze of Fold.
func Normal(s string) string {
	return Squeeze(Fold(s))
}

// Safe tells whether s may stand plain in a snapshot.
func Safe(s string) bool {
	// A byte above 127 gives a rune above 127, of UTF-8 and of anything else, so runes say what bytes would.
	for place, r := range s {
		if !safeRune(r) || place == 0 && marksValue(r) {
			return false
		}
	}
	return true
}

// Plain tells whether s is written plain in a snapshot: Safe, and no space at its end.
func Plain(s string) bool {
	return Safe(s) && !strings.HasSuffix(s, " ")
}

func blank(b byte) bool {
	return 9 <= b && b <= 13 || b == ' '
}

func safeRune(r rune) bool {
	return 1 <= r && r <= 127 && r != '\n' && r != '\r'
}

// marksValue tells the runes that, ahead of a value, would be read as a sign of how it is written.
func marksValue(r rune) bool {
	return r == ' ' || r == ':' || r == '<'
}
