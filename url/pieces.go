package url

import (
	"strings"

	"roster/api"
	"roster/attr"
	"roster/dn"
	"roster/filter"
	"roster/text"
)

// scopeWords are what the scopes are called, by their numbers.
var scopeWords = [...]string{api.BaseObject: "base", api.SingleLevel: "one", api.WholeSubtree: "sub"}

// piece is one of those between which question marks stand.
type piece struct {
	read  func(u *api.URL, s string) fault // of a text with a byte at least; the fault's place is one in it
	made  func(u api.URL) bool             // whether what the piece says may stand in a URL
	write func(u api.URL) string           // of what is made well
}

// pieces are in the order in which they stand in a URL.
func pieces() [5]piece {
	return [...]piece{
		{readName, nameMade, writeName},
		{readAttributes, attributesMade, writeAttributes},
		{readScope, scopeMade, writeScope},
		{readFilter, filterMade, writeFilter},
		{readExtensions, extensionsMade, writeExtensions},
	}
}

func readName(u *api.URL, s string) fault {
	name, f := unescaped(s)
	if f.err != api.OK {
		return f
	}
	if !isName(name) {
		return fault{api.ErrURLName, 0}
	}
	u.DN = name
	return fault{}
}

func nameMade(u api.URL) bool { return isName(u.DN) }

func writeName(u api.URL) string { return escapeButCommas(u.DN) }

func readAttributes(u *api.URL, s string) fault {
	return inTurn(strings.Split(s, ","), func(_ int, cut string) fault {
		wish, f := unescaped(cut)
		if f.err != api.OK {
			return f
		}
		if !isWish(wish) {
			return fault{api.ErrURLDesc, 0}
		}
		u.Attributes = append(u.Attributes, wish)
		return fault{}
	})
}

func attributesMade(u api.URL) bool {
	for _, a := range u.Attributes {
		if !isWish(a) {
			return false
		}
	}
	return true
}

// writeAttributes has nothing to escape: all bytes of a wish are quiet.
func writeAttributes(u api.URL) string { return strings.Join(u.Attributes, ",") }

func readScope(u *api.URL, s string) fault {
	folded := text.Fold(s)
	for scope, word := range scopeWords {
		if folded == word {
			u.Scope, u.HasScope = api.Scope(scope), true
			return fault{}
		}
	}
	return fault{api.ErrURLScope, 0}
}

func scopeMade(u api.URL) bool {
	if !u.HasScope {
		return u.Scope == api.BaseObject
	}
	return 0 <= u.Scope && int(u.Scope) < len(scopeWords)
}

func writeScope(u api.URL) string {
	if !u.HasScope {
		return ""
	}
	return scopeWords[u.Scope]
}

func readFilter(u *api.URL, s string) fault {
	written, f := unescaped(s)
	if f.err != api.OK {
		return f
	}
	nodes, err, _ := filter.Parse(written)
	if err != api.OK {
		return fault{api.ErrURLFilter, 0}
	}
	u.Filter = nodes
	return fault{}
}

func filterMade(u api.URL) bool {
	if len(u.Filter) == 0 {
		return true
	}
	_, err := filter.Print(u.Filter)
	return err == api.OK
}

// writeFilter needs no look at whether there is a node: without one there is no text.
func writeFilter(u api.URL) string {
	written, _ := filter.Print(u.Filter)
	return escapeButCommas(written)
}

func readExtensions(u *api.URL, s string) fault {
	return inTurn(strings.Split(s, ","), func(_ int, cut string) fault {
		e, f := readExtension(cut)
		u.Extensions = append(u.Extensions, e)
		return f
	})
}

func extensionsMade(u api.URL) bool {
	for _, e := range u.Extensions {
		if !isType(e.Type) || !e.HasValue && e.Value != "" {
			return false
		}
	}
	return true
}

func writeExtensions(u api.URL) string {
	var texts []string
	for _, e := range u.Extensions {
		texts = append(texts, writeExtension(e))
	}
	return strings.Join(texts, ",")
}

func readExtension(s string) (api.Extension, fault) {
	rest, critical := strings.CutPrefix(s, "!")
	typ, written, hasValue := strings.Cut(rest, "=")
	if !isType(typ) {
		return api.Extension{}, fault{api.ErrExtension, 0}
	}
	value, f := readValue(written)
	return api.Extension{Critical: critical, Type: typ, Value: value, HasValue: hasValue}, f.behind(len(s) - len(written))
}

// readValue reads an extension's value. A fault ahead of the first question mark is the nearer one.
func readValue(s string) (string, fault) {
	front, _, marked := strings.Cut(s, "?")
	value, f := unescaped(front)
	if f.err == api.OK && marked {
		return "", fault{api.ErrPercent, len(front)}
	}
	return value, f
}

// writeExtension has nothing to escape in a type: all its bytes are quiet.
func writeExtension(e api.Extension) string {
	out := e.Type
	if e.Critical {
		out = "!" + out
	}
	if e.HasValue {
		out += "=" + Escape(e.Value)
	}
	return out
}

func isName(s string) bool {
	_, err := dn.Parse(s)
	return err == nil
}

func isCritical(e api.Extension) bool { return e.Critical }

func isType(s string) bool {
	_, err, _ := attr.ParseType(s)
	return err == api.OK
}
