package text

import "roster/api"

// Check tells whether s is UTF-8: OK and len(s), or ErrUTF8 and the place at which the first sequence that is none begins.
func Check(s string) (api.Errno, int) {
	place := 0
	for place < len(s) {
		length := sequence(s[place:])
		if length == 0 {
			return api.ErrUTF8, place
		}
		place += length
	}
	return api.OK, place
}

// sequence tells the length of the sequence with which s, which has a byte, begins; 0: it begins with none.
func sequence(s string) int {
	length, low, high := lead(s[0])
	if len(s) < length {
		return 0
	}
	switch length {
	case 4:
		if !within(s[3], 0x80, 0xBF) {
			return 0
		}
		fallthrough
	case 3:
		if !within(s[2], 0x80, 0xBF) {
			return 0
		}
		fallthrough
	case 2:
		if !within(s[1], low, high) {
			return 0
		}
	}
	return length
}

// lead tells how long the sequences are that begin with this byte (0: none does), and between which bytes their second one is. The second byte alone keeps out surrogates, numbers above 10FFFF and overlong forms.
func lead(first byte) (length int, low, high byte) {
	switch {
	case first <= 0x7F:
		return 1, 0, 0
	case first < 0xC2:
		return 0, 0, 0
	case first <= 0xDF:
		return 2, 0x80, 0xBF
	case first == 0xE0:
		return 3, 0xA0, 0xBF
	case first == 0xED:
		return 3, 0x80, 0x9F
	case first <= 0xEF:
		return 3, 0x80, 0xBF
	case first == 0xF0:
		return 4, 0x90, 0xBF
	case first <= 0xF3:
		return 4, 0x80, 0xBF
	case first == 0xF4:
		return 4, 0x80, 0x8F
	}
	return 0, 0, 0
}

func within(b, low, high byte) bool {
	return low <= b && b <= high
}
