package text

import "roster/api"

var hexDigits = [16]byte{'0', '1', '2', '3', '4', '5', '6', '7', '8', '9', 'a', 'b', 'c', 'd', 'e', 'f'}

// Hex writes two small hex digits a byte.
func Hex(s string) string {
	out := make([]byte, 0, 2*len(s))
	for i := 0; i < len(s); i++ {
		out = append(out, hexDigits[s[i]>>4], hexDigits[s[i]&15])
	}
	return string(out)
}

// Unhex reads pairs of hex digits; with an error the place of the first byte that can't stand there.
func Unhex(s string) (string, api.Errno, int) {
	out := make([]byte, 0, len(s)/2)
	high := byte(0)
	for i := 0; i < len(s); i++ {
		digit, ok := hexWorth(s[i])
		if !ok {
			return "", api.ErrHex, i
		}
		if i%2 == 0 {
			high = digit
		} else {
			out = append(out, high<<4|digit)
		}
	}
	if len(s)%2 != 0 {
		return "", api.ErrHex, len(s)
	}
	return string(out), api.OK, len(s)
}

func hexWorth(b byte) (byte, bool) {
	switch {
	case '0' <= b && b <= '9':
		return b - '0', true
	case 'a' <= b && b <= 'f':
		return b - 'a' + 10, true
	case 'A' <= b && b <= 'F':
		return b - 'A' + 10, true
	}
	return 0, false
}
