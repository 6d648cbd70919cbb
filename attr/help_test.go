package attr

import (
	"maps"
	"regexp"
	"slices"
	"sort"
	"strings"

	"roster/api"
)

// The chapter's words, and those of their fronts.
var (
	wholeType = regexp.MustCompile(`^(?s:[A-Za-z][A-Za-z0-9-]*|(0|[1-9][0-9]*)(\.(0|[1-9][0-9]*))+)$`)
	frontType = regexp.MustCompile(`^(?s:|[A-Za-z][A-Za-z0-9-]*|(0|[1-9][0-9]*)(\.(0|[1-9][0-9]*))*\.?)$`)
	behind    = regexp.MustCompile(`^(?s:(;[A-Za-z0-9-]+)*)$`)
	frontMore = regexp.MustCompile(`^(?s:(;[A-Za-z0-9-]+)*;?)$`)
)

// cut cuts a text ahead of its first ";".
func cut(s string) (typ, rest string) {
	if at := strings.IndexByte(s, ';'); at >= 0 {
		return s[:at], s[at:]
	}
	return s, ""
}

func wholeDesc(s string) bool {
	typ, rest := cut(s)
	return matches(wholeType, typ) && matches(behind, rest)
}

func frontDesc(s string) bool {
	typ, rest := cut(s)
	if rest == "" {
		return matches(frontType, typ)
	}
	return matches(wholeType, typ) && matches(frontMore, rest)
}

// matches guards against a "$" that would take a line feed at the end.
func matches(form *regexp.Regexp, s string) bool {
	return len(form.FindString(s)) == len(s) && form.MatchString(s)
}

// slowPlace is the greatest place up to which the text is a front. What is ahead of it is one too, so it can be searched by halves.
func slowPlace(s string, front func(s string) bool) int {
	return sort.Search(len(s), func(i int) bool { return !front(s[:i+1]) })
}

// slowRow is the number of the row that a text names; -1, if it names none.
func slowRow(s string) int {
	folded := lower(s)
	for number, called := range callings {
		if slices.Contains(called, folded) {
			return number
		}
	}
	return -1
}

// lower folds byte by byte: strings.ToLower would turn letters beyond ASCII as well.
func lower(s string) string {
	out := []byte(s)
	for i, b := range out {
		if strings.IndexByte("ABCDEFGHIJKLMNOPQRSTUVWXYZ", b) >= 0 {
			out[i] = b + 32
		}
	}
	return string(out)
}

func slowCanonicalType(s string) string {
	if number := slowRow(s); number >= 0 {
		return lower(table[number].name)
	}
	return lower(s)
}

// slowParse is P4.3, word by word.
func slowParse(s string) (api.Desc, api.Errno, int) {
	if !wholeDesc(s) {
		return api.Desc{}, api.ErrDesc, slowPlace(s, frontDesc)
	}
	typ, rest := cut(s)
	once := map[string]bool{}
	for _, option := range strings.Split(rest, ";")[1:] {
		once[lower(option)] = true
	}
	return api.Desc{Type: slowCanonicalType(typ), Options: slices.Sorted(maps.Keys(once))}, api.OK, len(s)
}

// slowParseType is P4.4.
func slowParseType(s string) (string, api.Errno, int) {
	if !matches(wholeType, s) {
		return "", api.ErrDesc, slowPlace(s, func(s string) bool { return matches(frontType, s) })
	}
	return slowCanonicalType(s), api.OK, len(s)
}

// slowSupers is P4.7.
func slowSupers(s string) []string {
	number := slowRow(s)
	if number < 0 {
		return []string{lower(s)}
	}
	var out []string
	for number >= 0 {
		out = append(out, lower(table[number].name))
		number = table[number].super
	}
	return out
}

// slowCovers is P4.8.
func slowCovers(d, e string) bool {
	if !wholeDesc(d) || !wholeDesc(e) {
		return false
	}
	wide, _, _ := slowParse(d)
	narrow, _, _ := slowParse(e)
	for _, option := range wide.Options {
		if !slices.Contains(narrow.Options, option) {
			return false
		}
	}
	return slices.Contains(slowSupers(narrow.Type), wide.Type)
}

// slowSyntax is P4.9.
func slowSyntax(s string) api.Syntax {
	typ, _ := cut(s)
	if !wholeDesc(s) || slowRow(typ) < 0 {
		return api.SynNone
	}
	return table[slowRow(typ)].syntax
}

func sameDesc(a, b api.Desc) bool {
	return a.Type == b.Type && slices.Equal(a.Options, b.Options)
}

// forAll calls f with every text of at most longest bytes, all of them out of letters.
func forAll(letters string, longest int, f func(s string)) {
	var grow func(front []byte)
	grow = func(front []byte) {
		f(string(front))
		if len(front) == longest {
			return
		}
		for i := 0; i < len(letters); i++ {
			grow(append(front, letters[i]))
		}
	}
	grow(make([]byte, 0, longest))
}

// anyCase is the text in some of the cases in which it may be written.
func anyCase(s string) []string {
	mixed := []byte(strings.ToLower(s))
	for i := range mixed {
		if i%2 == 1 {
			mixed[i] = strings.ToUpper(s)[i]
		}
	}
	out := []string{s, strings.ToLower(s), strings.ToUpper(s), string(mixed)}
	for i := range s {
		out = append(out, strings.ToLower(s[:i])+strings.ToUpper(s[i:i+1])+strings.ToLower(s[i+1:]))
	}
	return out
}
