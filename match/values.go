package match

import (
	"cmp"
	"strings"

	"roster/dn"
	"roster/text"
)

// integer is SynInteger.
type integer struct{ undivided }

func (integer) normal(value string) (string, bool) {
	return itself(value, isInteger(value))
}

func (integer) ordered() bool { return true }

func (integer) compare(a, b string) int {
	if !isInteger(a) || !isInteger(b) {
		return strings.Compare(a, b)
	}
	return compareIntegers(a, b)
}

// boolean is SynBoolean.
type boolean struct{ none }

func (boolean) normal(value string) (string, bool) {
	return itself(value, value == "TRUE" || value == "FALSE")
}

// bits is SynBits.
type bits struct{ none }

func (bits) normal(value string) (string, bool) {
	rest, begins := strings.CutPrefix(value, "'")
	rest, ends := strings.CutSuffix(rest, "'B")
	return itself(value, begins && ends && madeOf(rest, "01"))
}

// oid is SynOID.
type oid struct{ none }

func (oid) normal(value string) (string, bool) {
	if !isWord(value) && !isIdentifier(value) {
		return "", false
	}
	return text.Fold(value), true
}

// name is SynName.
type name struct{ none }

func (name) normal(value string) (string, bool) {
	key, err := dn.KeyOf(value)
	if err != nil {
		return "", false
	}
	return strings.Join(key, ","), true
}

// list is SynList.
type list struct{ none }

func (list) normal(value string) (string, bool) {
	if !isUTF8(value) {
		return "", false
	}
	lines := strings.Split(value, "$")
	for i, written := range lines {
		line, ok := unescape(written, "$")
		if !ok || line == "" {
			return "", false
		}
		lines[i] = escapeLine(text.Normal(line))
	}
	return strings.Join(lines, "$"), true
}

// escapeLine turns the backslashes first: those of the escapes must stay.
func escapeLine(line string) string {
	line = strings.ReplaceAll(line, `\`, `\5c`)
	return strings.ReplaceAll(line, "$", `\24`)
}

// itself is the answer where a value is its own normal form.
func itself(value string, ok bool) (string, bool) {
	if !ok {
		return "", false
	}
	return value, true
}

func isInteger(value string) bool {
	size, below := strings.CutPrefix(value, "-")
	return isNumber(size) && !(below && size == "0")
}

// isNumber tells whether s is 0, or digits without a 0 at their front.
func isNumber(s string) bool {
	return s == "0" || s != "" && s[0] != '0' && madeOf(s, digits)
}

func isWord(s string) bool {
	return s != "" && madeOf(s[:1], letters) && madeOf(s, letters+digits+"-")
}

// isIdentifier tells whether s is two numbers or more with points between.
func isIdentifier(s string) bool {
	numbers := strings.Split(s, ".")
	for _, number := range numbers {
		if !isNumber(number) {
			return false
		}
	}
	return len(numbers) >= 2
}

func compareIntegers(a, b string) int {
	sizeA, belowA := strings.CutPrefix(a, "-")
	sizeB, belowB := strings.CutPrefix(b, "-")
	switch {
	case belowA && belowB:
		return compareNumbers(sizeB, sizeA)
	case belowA:
		return -1
	case belowB:
		return 1
	}
	return compareNumbers(sizeA, sizeB)
}

// compareNumbers need not read them: without zeros at the front the longer one is the greater.
func compareNumbers(a, b string) int {
	return cmp.Or(cmp.Compare(len(a), len(b)), strings.Compare(a, b))
}
