package match

import (
	"strings"

	"roster/api"
)

// syntax is what values of one syntax mean.
type syntax interface {
	// normal is a value's normal form; false, if the value is not of the syntax.
	normal(value string) (string, bool)
	ordered() bool
	// compare takes normal forms, and is 0 where there is no order.
	compare(a, b string) int
	// piece is the normal form of a piece of a value; false, if no value can have it.
	piece(piece string, at seat) (string, bool)
}

// seat is where in a value a piece is sought.
type seat int

const (
	inside seat = iota
	atFront
	atEnd
)

// syntaxOf is the syntax of a number; that of SynNone, if it is none's.
func syntaxOf(s api.Syntax) syntax {
	switch s {
	case api.SynText:
		return folded{}
	case api.SynExact:
		return exact{}
	case api.SynIA5:
		return foldedIA5{}
	case api.SynIA5Exact:
		return exactIA5{}
	case api.SynNumeric:
		return numeric{}
	case api.SynPhone:
		return phone{}
	case api.SynInteger:
		return integer{}
	case api.SynBoolean:
		return boolean{}
	case api.SynOctet:
		return octet{}
	case api.SynName:
		return name{}
	case api.SynOID:
		return oid{}
	case api.SynTime:
		return instant{}
	case api.SynList:
		return list{}
	case api.SynBits:
		return bits{}
	}
	return none{}
}

// family tells the syntaxes apart as rules do: whether case is ignored makes no difference to them.
func family(s api.Syntax) api.Syntax {
	switch s {
	case api.SynExact:
		return api.SynText
	case api.SynIA5Exact:
		return api.SynIA5
	}
	return s
}

// unordered is the part of a syntax without an order.
type unordered struct{}

func (unordered) ordered() bool { return false }

func (unordered) compare(a, b string) int { return 0 }

// byBytes is the part of a syntax with the order of bytes.
type byBytes struct{}

func (byBytes) ordered() bool { return true }

func (byBytes) compare(a, b string) int { return strings.Compare(a, b) }

// undivided is the part of a syntax without pieces.
type undivided struct{}

func (undivided) piece(piece string, at seat) (string, bool) { return "", false }

// none is SynNone, and what the syntaxes that only know equality begin with.
type none struct {
	unordered
	undivided
}

func (none) normal(value string) (string, bool) { return "", false }
