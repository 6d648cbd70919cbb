package text

import (
	"strings"

	"roster/api"
)

var base64Alphabet = [64]byte{
	'A', 'B', 'C', 'D', 'E', 'F', 'G', 'H', 'I', 'J', 'K', 'L', 'M', 'N', 'O', 'P',
	'Q', 'R', 'S', 'T', 'U', 'V', 'W', 'X', 'Y', 'Z', 'a', 'b', 'c', 'd', 'e', 'f',
	'g', 'h', 'i', 'j', 'k', 'l', 'm', 'n', 'o', 'p', 'q', 'r', 's', 't', 'u', 'v',
	'w', 'x', 'y', 'z', '0', '1', '2', '3', '4', '5', '6', '7', '8', '9', '+', '/',
}

// base64Worths has -1 where a byte is no character of the alphabet; those above 127 are left out, as none of them is.
var base64Worths = [128]int8{
	-1, -1, -1, -1, -1, -1, -1, -1, -1, -1, -1, -1, -1, -1, -1, -1,
	-1, -1, -1, -1, -1, -1, -1, -1, -1, -1, -1, -1, -1, -1, -1, -1,
	-1, -1, -1, -1, -1, -1, -1, -1, -1, -1, -1, 62, -1, -1, -1, 63,
	52, 53, 54, 55, 56, 57, 58, 59, 60, 61, -1, -1, -1, -1, -1, -1,
	-1, 0, 1, 2, 3, 4, 5, 6, 7, 8, 9, 10, 11, 12, 13, 14,
	15, 16, 17, 18, 19, 20, 21, 22, 23, 24, 25, -1, -1, -1, -1, -1,
	-1, 26, 27, 28, 29, 30, 31, 32, 33, 34, 35, 36, 37, 38, 39, 40,
	41, 42, 43, 44, 45, 46, 47, 48, 49, 50, 51, -1, -1, -1, -1, -1,
}

// Base64 writes base64 with = at the end.
func Base64(s string) string {
	out := make([]byte, 0, (len(s)+2)/3*4)
	for len(s) > 0 {
		size := min(3, len(s))
		four := encodeGroup(s[:size])
		out = append(out, four[0], four[1], four[2], four[3])
		s = s[size:]
	}
	return string(out)
}

// Unbase64 reads strict base64; with an error the place.
func Unbase64(s string) (string, api.Errno, int) {
	out := make([]byte, 0, len(s)/4*3)
	for at := 0; at < len(s); at += 4 {
		group := s[at:min(at+4, len(s))]
		good := groupFront(group)
		if good < 4 {
			return "", api.ErrBase64, at + good
		}
		if group[3] == '=' && at+4 < len(s) {
			return "", api.ErrBase64, at + 4
		}
		out = appendDecoded(out, group)
	}
	return string(out), api.OK, len(s)
}

// encodeGroup writes one to three bytes; spare bits are zero as nothing is laid there.
func encodeGroup(b string) [4]byte {
	four := [4]byte{'=', '=', '=', '='}
	bits := 0
	switch len(b) {
	case 3:
		bits = int(b[2])
		four[3] = base64Alphabet[bits&63]
		fallthrough
	case 2:
		bits |= int(b[1]) << 8
		four[2] = base64Alphabet[bits>>6&63]
		fallthrough
	case 1:
		bits |= int(b[0]) << 16
		four[1] = base64Alphabet[bits>>12&63]
		four[0] = base64Alphabet[bits>>18]
	}
	return four
}

// groupFront tells how many of a group's bytes stand where they can, up to the first that can't.
func groupFront(group string) int {
	good := 0
	for good < len(group) && goesOn(group[:good], group[good]) {
		good++
	}
	return good
}

// goesOn tells whether b may stand right behind front, a good beginning of a group.
func goesOn(front string, b byte) bool {
	padded := strings.HasSuffix(front, "=")
	if b != '=' {
		return !padded && base64Worth(b) >= 0
	}
	switch len(front) {
	case 2:
		return base64Worth(front[1])&15 == 0
	case 3:
		return padded || base64Worth(front[2])&3 == 0
	}
	return false
}

// appendDecoded adds the bytes that a good group means.
func appendDecoded(out []byte, group string) []byte {
	filled := len(strings.TrimRight(group, "="))
	bits := 0
	switch filled {
	case 4:
		bits = base64Worth(group[3])
		fallthrough
	case 3:
		bits |= base64Worth(group[2]) << 6
		fallthrough
	case 2:
		bits |= base64Worth(group[1])<<12 | base64Worth(group[0])<<18
	}
	three := [3]byte{byte(bits >> 16), byte(bits >> 8), byte(bits)}
	return append(out, three[:filled-1]...)
}

func base64Worth(b byte) int {
	if int(b) >= len(base64Worths) {
		return -1
	}
	return int(base64Worths[b])
}
