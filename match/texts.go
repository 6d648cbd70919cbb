package match

import (
	"strings"

	"roster/api"
	"roster/text"
)

// exact is SynExact.
type exact struct{ byBytes }

func (exact) normal(value string) (string, bool) {
	if value == "" || !isUTF8(value) {
		return "", false
	}
	return text.Squeeze(value), true
}

func (exact) piece(piece string, at seat) (string, bool) {
	if !isUTF8(piece) {
		return "", false
	}
	return squeezePiece(piece, at), true
}

// folded is SynText: SynExact, its letters folded first.
type folded struct{ exact }

func (f folded) normal(value string) (string, bool) {
	return f.exact.normal(text.Fold(value))
}

func (f folded) piece(piece string, at seat) (string, bool) {
	return f.exact.piece(text.Fold(piece), at)
}

// exactIA5 is SynIA5Exact.
type exactIA5 struct{ unordered }

func (exactIA5) normal(value string) (string, bool) {
	if !isASCII(value) {
		return "", false
	}
	return text.Squeeze(value), true
}

func (exactIA5) piece(piece string, at seat) (string, bool) {
	if !isASCII(piece) {
		return "", false
	}
	return squeezePiece(piece, at), true
}

// foldedIA5 is SynIA5: SynIA5Exact, its letters folded first.
type foldedIA5 struct{ exactIA5 }

func (f foldedIA5) normal(value string) (string, bool) {
	return f.exactIA5.normal(text.Fold(value))
}

func (f foldedIA5) piece(piece string, at seat) (string, bool) {
	return f.exactIA5.piece(text.Fold(piece), at)
}

// numeric is SynNumeric.
type numeric struct{ byBytes }

func (n numeric) normal(value string) (string, bool) {
	if value == "" {
		return "", false
	}
	return n.piece(value, inside)
}

func (numeric) piece(piece string, at seat) (string, bool) {
	if !madeOf(piece, digits+" ") {
		return "", false
	}
	return strings.ReplaceAll(piece, " ", ""), true
}

// phone is SynPhone.
type phone struct{ unordered }

func (p phone) normal(value string) (string, bool) {
	if value == "" {
		return "", false
	}
	return p.piece(value, inside)
}

func (phone) piece(piece string, at seat) (string, bool) {
	if !madeOf(piece, printable) {
		return "", false
	}
	joined := strings.ReplaceAll(piece, " ", "")
	return text.Fold(strings.ReplaceAll(joined, "-", "")), true
}

// octet is SynOctet.
type octet struct{ byBytes }

func (octet) normal(value string) (string, bool) { return value, true }

func (octet) piece(piece string, at seat) (string, bool) { return piece, true }

// squeezePiece keeps the space at an end behind which the value goes on.
func squeezePiece(piece string, at seat) string {
	collapsed := text.Collapse(piece)
	switch at {
	case atFront:
		return strings.TrimPrefix(collapsed, " ")
	case atEnd:
		return strings.TrimSuffix(collapsed, " ")
	}
	return collapsed
}

const (
	digits    = "0123456789"
	letters   = "ABCDEFGHIJKLMNOPQRSTUVWXYZabcdefghijklmnopqrstuvwxyz"
	printable = letters + digits + " '()+,-./:=?"
)

// madeOf tells whether every byte is one of those that are allowed, which are below 0x80.
func madeOf(s, allowed string) bool {
	return strings.TrimLeft(s, allowed) == ""
}

func isUTF8(s string) bool {
	err, _ := text.Check(s)
	return err == api.OK
}

func isASCII(s string) bool {
	for i := range len(s) {
		if s[i] >= 0x80 {
			return false
		}
	}
	return true
}
