package url

import (
	"strconv"
	"strings"

	"roster/api"
)

// made tells whether a URL is made well.
func made(u api.URL) bool {
	if !serverMade(u.Host, u.Port) {
		return false
	}
	for _, p := range pieces() {
		if !p.made(u) {
			return false
		}
	}
	return true
}

// written is the text of a URL that is made well. No piece has a question mark in it, so those at the end stand ahead of pieces without a byte.
func written(u api.URL) string {
	out := scheme + u.Host
	if u.Port != 0 {
		out += ":" + strconv.Itoa(u.Port)
	}
	var texts []string
	for _, p := range pieces() {
		texts = append(texts, p.write(u))
	}
	return out + "/" + strings.TrimRight(strings.Join(texts, "?"), "?")
}

// escapeButCommas is for the pieces that are not cut at commas.
func escapeButCommas(s string) string {
	return strings.ReplaceAll(Escape(s), "%2C", ",")
}
