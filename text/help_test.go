package text

import "testing"

// forAll calls f with every text of at most longest bytes, all of them out of letters.
func forAll(letters string, longest int, f func(s string)) {
	var grow func(front []byte)
	grow = func(front []byte) {
		f(string(front))
		if len(front) == longest {
			return
		}
		for i := 0; i < len(letters); i++ {
			grow(append(front, letters[i]))
		}
	}
	grow(make([]byte, 0, longest))
}

// allBytes is every byte once, rising.
func allBytes() string {
	out := make([]byte, 256)
	for i := range out {
		out[i] = byte(i)
	}
	return string(out)
}

type turned struct{ in, want string }

func checkTurned(t *testing.T, what string, f func(string) string, cases []turned) {
	t.Helper()
	for _, c := range cases {
		if got := f(c.in); got != c.want {
			t.Errorf("%s(%q) = %q; want %q", what, c.in, got, c.want)
		}
	}
}
