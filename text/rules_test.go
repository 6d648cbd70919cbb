package text

import (
	"strconv"
	"strings"
	"testing"

	"roster/api"
)

// answers is what all the calls of the package answer of one text, in one text.
func answers(s string) string {
	err, place := Check(s)
	out := []string{told("", err, place), Fold(s), Collapse(s), Squeeze(s), Normal(s), Hex(s), Base64(s)}
	out = append(out, told(Unhex(s)), told(Unbase64(s)))
	out = append(out, strconv.FormatBool(Safe(s)), strconv.FormatBool(Plain(s)))
	return strings.Join(out, "\n")
}

func told(s string, err api.Errno, place int) string {
	return s + " " + strconv.Itoa(int(err)) + " " + strconv.Itoa(place)
}

// P0.1: no call panics, and each hangs on its argument alone, whatever was asked before.
func TestAnswersHangOnTheTextAlone(t *testing.T) {
	letters := "aZ0 \t\n:=\x00\x7f\x80\xc3\xf0\xff"
	first := map[string]string{}
	forAll(letters, 3, func(s string) { first[s] = answers(s) })
	for s, want := range first {
		if got := answers(s); got != want {
			t.Fatalf("of %q: %q; before: %q", s, got, want)
		}
	}
}

// P0.1: with an error the text is the zero value.
func TestNoTextBesideAnError(t *testing.T) {
	forAll("0aZ=g\xff", 6, func(s string) {
		if got, err, _ := Unhex(s); err != api.OK && (err != api.ErrHex || got != "") {
			t.Fatalf("Unhex(%q) = %q, %d", s, got, err)
		}
		if got, err, _ := Unbase64(s); err != api.OK && (err != api.ErrBase64 || got != "") {
			t.Fatalf("Unbase64(%q) = %q, %d", s, got, err)
		}
	})
}

// The chapter's Limits: work that grew as the length's square would not end here.
func TestLongTexts(t *testing.T) {
	const size = 1 << 22
	long := strings.Repeat("a", size)
	if err, place := Check(strings.Repeat("\u20ac", size) + "\xe2\x82"); err != api.ErrUTF8 || place != 3*size {
		t.Errorf("Check of a long text = %d, %d", err, place)
	}
	if got := Fold(strings.Repeat("A", size)); got != long {
		t.Error("Fold of a long text")
	}
	blanks := strings.Repeat(" \t", size)
	if got := Normal(blanks + "A" + blanks + "B" + blanks); got != "a b" {
		t.Error("Normal of a long text")
	}
	if got, err, place := Unhex(Hex(long)); got != long || err != api.OK || place != 2*size {
		t.Error("Hex and Unhex of a long text")
	}
	if got, err, place := Unbase64(Base64(long)); got != long || err != api.OK || place != (size+2)/3*4 {
		t.Error("Base64 and Unbase64 of a long text")
	}
	if !Safe(long+" ") || Plain(long+" ") || Safe(long+"\x00") {
		t.Error("Safe and Plain of a long text")
	}
}
