package ber

import "roster/api"

// Int reads an integer's content.
func Int(body string) (int64, api.Errno) {
	if len(body) == 0 || len(body) > 8 || padded(body) {
		return 0, api.ErrContent
	}
	n := int64(int8(body[0]))
	for i := 1; i < len(body); i++ {
		n = n<<8 | int64(body[i])
	}
	return n, api.OK
}

// padded says whether the first byte of a number only repeats the sign that the second one has too.
func padded(body string) bool {
	if len(body) < 2 {
		return false
	}
	negative := body[1] >= 0x80
	return body[0] == 0x00 && !negative || body[0] == 0xFF && negative
}

// PutInt writes an integer's content in its shortest form.
func PutInt(n int64) string {
	size := 1
	for rest := n; rest < -0x80 || rest > 0x7F; rest >>= 8 {
		size++
	}
	out := make([]byte, size)
	for i := size - 1; i >= 0; i-- {
		out[i] = byte(n)
		n >>= 8
	}
	return string(out)
}

// Bool reads a boolean's content.
func Bool(body string) (bool, api.Errno) {
	if len(body) != 1 {
		return false, api.ErrContent
	}
	return body[0] != 0, api.OK
}

// PutBool writes a boolean's content.
func PutBool(v bool) string {
	if v {
		return "\xFF"
	}
	return "\x00"
}
