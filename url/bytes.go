package url

import (
	"strings"

	"roster/api"
	"roster/text"
)

// plain tells whether a byte may stand in a piece as it is.
func plain(b byte) bool { return '!' <= b && b <= '~' && b != '%' }

// quiet tells whether Escape leaves a byte as it is.
func quiet(b byte) bool {
	return letter(b) || digit(b) || strings.IndexByte("-._~!$&'()*+;=:@/", b) >= 0
}

// coded is the byte that the two hex digits say with which rest begins; false, if it doesn't begin so.
func coded(rest string) (byte, bool) {
	if len(rest) < 2 {
		return 0, false
	}
	said, err, _ := text.Unhex(rest[:2])
	if err != api.OK {
		return 0, false
	}
	return said[0], true
}

func letter(b byte) bool { return 'a' <= b && b <= 'z' || 'A' <= b && b <= 'Z' }

func digit(b byte) bool { return '0' <= b && b <= '9' }

// rowEnd tells where the longest row of such bytes ends that s begins with.
func rowEnd(s string, such func(b byte) bool) int {
	end := 0
	for end < len(s) && such(s[end]) {
		end++
	}
	return end
}
