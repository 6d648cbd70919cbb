package match

import (
	"math/big"
	"math/rand"
	"regexp"
	"slices"
	"strconv"
	"strings"
	"testing"
	"time"
	"unicode/utf8"

	"roster/api"
	"roster/dn"
)

// slowSyntax is a row of the chapter's table of syntaxes: the form of what is of it, whether it must be UTF-8, its order, whether it has pieces.
type slowSyntax struct {
	form   *regexp.Regexp
	utf8   bool
	order  string
	pieces bool
}

func form(s string) *regexp.Regexp { return regexp.MustCompile(`^(?s:` + s + `)$`) }

const lineForm = `([^$\\]|\\24|\\5[Cc])+`

// slowSyntaxes stand at their numbers. What can be written of a form is there; a name is asked of dn, and of a time the calendar too.
var slowSyntaxes = []slowSyntax{
	{},
	{form(`.+`), true, "bytes", true},
	{form(`.+`), true, "bytes", true},
	{form(`[\x00-\x7f]*`), false, "no", true},
	{form(`[\x00-\x7f]*`), false, "no", true},
	{form(`[0-9 ]+`), false, "bytes", true},
	{form(`[A-Za-z0-9 '()+,\-./:=?]+`), false, "no", true},
	{form(`0|-?[1-9][0-9]*`), false, "numbers", false},
	{form(`TRUE|FALSE`), false, "no", false},
	{form(`.*`), false, "bytes", true},
	{form(`.*`), false, "no", false},
	{form(`[A-Za-z][A-Za-z0-9-]*|(0|[1-9][0-9]*)(\.(0|[1-9][0-9]*))+`), false, "no", false},
	{timeForm, false, "bytes", false},
	{form(lineForm + `(\$` + lineForm + `)*`), true, "no", false},
	{form(`'[01]*'B`), false, "no", false},
}

// timeForm has the groups year, month, day, hour, minute, second, fraction, sign, zone's hour, zone's minute.
var timeForm = form(`([0-9]{4})(0[1-9]|1[0-2])(0[1-9]|[12][0-9]|3[01])([01][0-9]|2[0-3])` +
	`(?:([0-5][0-9])(?:([0-5][0-9])(?:[.,]([0-9]+))?)?)?` +
	`(?:Z|([+-])([01][0-9]|2[0-3])([0-5][0-9])?)`)

// slowOf is the row of a syntax; the first one's of a number that is none.
func slowOf(s api.Syntax) slowSyntax {
	if s < 0 || int(s) >= len(slowSyntaxes) {
		return slowSyntaxes[0]
	}
	return slowSyntaxes[s]
}

// lower folds byte by byte: strings.ToLower would turn letters beyond ASCII as well.
func lower(s string) string {
	out := []byte(s)
	for i, b := range out {
		if strings.IndexByte("ABCDEFGHIJKLMNOPQRSTUVWXYZ", b) >= 0 {
			out[i] = b + 32
		}
	}
	return string(out)
}

// collapse goes byte by byte: a regular expression would turn bytes that are no UTF-8.
func collapse(s string) string {
	var out []byte
	for i := range len(s) {
		b := s[i]
		if strings.IndexByte("\t\n\v\f\r ", b) >= 0 {
			b = ' '
			if len(out) > 0 && out[len(out)-1] == ' ' {
				continue
			}
		}
		out = append(out, b)
	}
	return string(out)
}

func squeeze(s string) string { return strings.Trim(collapse(s), " ") }

// slowNormal is P6.1.
func slowNormal(s api.Syntax, value string) (string, bool) {
	row := slowOf(s)
	if row.form == nil || !row.form.MatchString(value) || row.utf8 && !utf8.ValidString(value) {
		return "", false
	}
	switch s {
	case 1, 3:
		return squeeze(lower(value)), true
	case 2, 4:
		return squeeze(value), true
	case 5:
		return strings.ReplaceAll(value, " ", ""), true
	case 6:
		return strings.NewReplacer(" ", "", "-", "").Replace(lower(value)), true
	case 10:
		return slowName(value)
	case 11:
		return lower(value), true
	case 12:
		return slowTime(value)
	case 13:
		return slowList(value), true
	}
	return value, true
}

func slowName(value string) (string, bool) {
	d, err := dn.Parse(value)
	if err != nil {
		return "", false
	}
	var out []string
	for _, part := range slices.Backward(d) {
		text, _ := dn.Part(part)
		out = append(out, text)
	}
	return strings.Join(out, ","), true
}

func slowTime(value string) (string, bool) {
	groups := timeForm.FindStringSubmatch(value)
	number := func(group int) int {
		n, _ := strconv.Atoi(groups[group])
		return n
	}
	written := time.Date(number(1), time.Month(number(2)), number(3), number(4), number(5), number(6), 0, time.UTC)
	if written.Day() != number(3) {
		return "", false
	}
	zone := time.Duration(number(9))*time.Hour + time.Duration(number(10))*time.Minute
	if groups[8] == "+" {
		zone = -zone
	}
	meant := written.Add(zone)
	if meant.Year() < 0 || meant.Year() > 9999 {
		return "", false
	}
	fraction := strings.TrimRight(groups[7], "0")
	if fraction != "" {
		fraction = "." + fraction
	}
	return meant.Format("20060102150405") + fraction, true
}

func slowList(value string) string {
	var lines []string
	for _, line := range strings.Split(value, "$") {
		meant := strings.NewReplacer(`\24`, "$", `\5c`, `\`, `\5C`, `\`).Replace(line)
		lines = append(lines, strings.NewReplacer("$", `\24`, `\`, `\5c`).Replace(squeeze(lower(meant))))
	}
	return strings.Join(lines, "$")
}

// slowCompare is P6.3.
func slowCompare(s api.Syntax, a, b string) int {
	switch slowOf(s).order {
	case "bytes":
		return slices.Compare([]byte(a), []byte(b))
	case "numbers":
		x, isX := slowNumber(a)
		y, isY := slowNumber(b)
		if !isX || !isY {
			return slices.Compare([]byte(a), []byte(b))
		}
		return x.Cmp(y)
	}
	return 0
}

func slowNumber(s string) (*big.Int, bool) {
	if !slowOf(7).form.MatchString(s) {
		return nil, false
	}
	return new(big.Int).SetString(s, 10)
}

// pieceForms tell which bytes a piece may have.
var pieceForms = map[api.Syntax]*regexp.Regexp{
	1: form(`.*`), 2: form(`.*`), 3: form(`[\x00-\x7f]*`), 4: form(`[\x00-\x7f]*`), 5: form(`[0-9 ]*`), 6: form(`[A-Za-z0-9 '()+,\-./:=?]*`), 9: form(`.*`),
}

// slowParts is P6.4.
func slowParts(s api.Syntax, p api.Pattern) (api.Pattern, bool) {
	if !slowOf(s).pieces || p.Initial == "" && p.Final == "" && len(p.Any) == 0 {
		return api.Pattern{}, false
	}
	all := append([]string{p.Initial, p.Final}, p.Any...)
	for i, piece := range all {
		if !pieceForms[s].MatchString(piece) || slowOf(s).utf8 && !utf8.ValidString(piece) {
			return api.Pattern{}, false
		}
		switch s {
		case 1, 3:
			all[i] = collapse(lower(piece))
		case 2, 4:
			all[i] = collapse(piece)
		case 5:
			all[i] = strings.ReplaceAll(piece, " ", "")
		case 6:
			all[i] = strings.NewReplacer(" ", "", "-", "").Replace(lower(piece))
		}
	}
	out := api.Pattern{Initial: all[0], Any: all[2:], Final: all[1]}
	if s <= 4 {
		out.Initial, out.Final = strings.TrimLeft(out.Initial, " "), strings.TrimRight(out.Final, " ")
	}
	return out, true
}

// slowFits is P6.5: it tries every place for every piece.
func slowFits(normal string, p api.Pattern) bool {
	return strings.HasPrefix(normal, p.Initial) && slowInner(normal[len(p.Initial):], p.Any, p.Final)
}

func slowInner(rest string, inner []string, final string) bool {
	if len(inner) == 0 {
		return strings.HasSuffix(rest, final)
	}
	for at := 0; at+len(inner[0]) <= len(rest); at++ {
		if rest[at:at+len(inner[0])] == inner[0] && slowInner(rest[at+len(inner[0]):], inner[1:], final) {
			return true
		}
	}
	return false
}

// truth is what a value is told that is asked.
func truth(holds bool) api.Truth {
	if holds {
		return api.True
	}
	return api.False
}

// slowHold is P6.6 and P6.7: the value's normal form against the assertion's.
func slowHold(s api.Syntax, value, assertion string, holds func(value, assertion string) bool) api.Truth {
	want, ok := slowNormal(s, assertion)
	if !ok {
		return api.Undefined
	}
	normal, ok := slowNormal(s, value)
	return truth(ok && holds(normal, want))
}

func slowEqual(s api.Syntax, value, assertion string) api.Truth {
	return slowHold(s, value, assertion, func(a, b string) bool { return a == b })
}

func slowOrder(s api.Syntax, value, assertion string, orders ...int) api.Truth {
	if slowOf(s).order == "no" || slowOf(s).order == "" {
		return api.Undefined
	}
	return slowHold(s, value, assertion, func(a, b string) bool { return slices.Contains(orders, slowCompare(s, a, b)) })
}

// slowContains is P6.8.
func slowContains(s api.Syntax, value string, p api.Pattern) api.Truth {
	parts, ok := slowParts(s, p)
	if !ok {
		return api.Undefined
	}
	normal, ok := slowNormal(s, value)
	return truth(ok && slowFits(normal, parts))
}

func samePattern(a, b api.Pattern) bool {
	return a.Initial == b.Initial && a.Final == b.Final && slices.Equal(a.Any, b.Any)
}

func pattern(initial string, inner []string, final string) api.Pattern {
	return api.Pattern{Initial: initial, Any: inner, Final: final}
}

func holdNormal(t *testing.T, s api.Syntax, value string) {
	t.Helper()
	want, wantOK := slowNormal(s, value)
	if got, ok := Normal(s, value); got != want || ok != wantOK {
		t.Fatalf("Normal(%d, %.200q) = %.200q, %v; want %.200q, %v", s, value, got, ok, want, wantOK)
	}
}

func holdCompare(t *testing.T, s api.Syntax, a, b string) {
	t.Helper()
	if got, want := Compare(s, a, b), slowCompare(s, a, b); got != want {
		t.Fatalf("Compare(%d, %.200q, %.200q) = %d; want %d", s, a, b, got, want)
	}
}

// holdTruths holds a value against an assertion in the three ways.
func holdTruths(t *testing.T, s api.Syntax, value, assertion string) {
	t.Helper()
	if got, want := Equal(s, value, assertion), slowEqual(s, value, assertion); got != want {
		t.Fatalf("Equal(%d, %.200q, %.200q) = %d; want %d", s, value, assertion, got, want)
	}
	if got, want := AtLeast(s, value, assertion), slowOrder(s, value, assertion, 0, 1); got != want {
		t.Fatalf("AtLeast(%d, %.200q, %.200q) = %d; want %d", s, value, assertion, got, want)
	}
	if got, want := AtMost(s, value, assertion), slowOrder(s, value, assertion, 0, -1); got != want {
		t.Fatalf("AtMost(%d, %.200q, %.200q) = %d; want %d", s, value, assertion, got, want)
	}
}

func holdParts(t *testing.T, s api.Syntax, p api.Pattern) {
	t.Helper()
	want, wantOK := slowParts(s, p)
	if got, ok := Parts(s, p); !samePattern(got, want) || ok != wantOK {
		t.Fatalf("Parts(%d, %.200q) = %.200q, %v; want %.200q, %v", s, p, got, ok, want, wantOK)
	}
}

func holdFits(t *testing.T, normal string, p api.Pattern) {
	t.Helper()
	if got, want := Fits(normal, p), slowFits(normal, p); got != want {
		t.Fatalf("Fits(%.200q, %.200q) = %v; want %v", normal, p, got, want)
	}
}

func holdContains(t *testing.T, s api.Syntax, value string, p api.Pattern) {
	t.Helper()
	if got, want := Contains(s, value, p), slowContains(s, value, p); got != want {
		t.Fatalf("Contains(%d, %.200q, %.200q) = %d; want %d", s, value, p, got, want)
	}
}

// allSyntaxes are the syntaxes and numbers that are none.
func allSyntaxes() []api.Syntax {
	out := []api.Syntax{-1 << 63, -1 << 32, -15, -2, -1, 15, 16, 1<<8 + 1, 1<<16 + 1, 1<<32 + 1, 1<<63 - 1}
	for s := range api.Syntax(15) {
		out = append(out, s)
	}
	return out
}

// forAll calls f with every text of at most longest bytes, all of them out of letters.
func forAll(letters string, longest int, f func(s string)) {
	var grow func(front []byte)
	grow = func(front []byte) {
		f(string(front))
		if len(front) == longest {
			return
		}
		for i := range len(letters) {
			grow(append(front, letters[i]))
		}
	}
	grow(make([]byte, 0, longest))
}

// forAllNear calls f with the text, with each byte left out, turned into every other, and with every byte at each place between.
func forAllNear(s string, f func(s string)) {
	f(s)
	for at := range len(s) + 1 {
		for b := range 256 {
			f(s[:at] + string([]byte{byte(b)}) + s[at:])
			if at < len(s) {
				f(s[:at] + string([]byte{byte(b)}) + s[at+1:])
			}
		}
		if at < len(s) {
			f(s[:at] + s[at+1:])
			f(s[:at])
		}
	}
}

// pick is one of the texts.
func pick(r *rand.Rand, texts ...string) string { return texts[r.Intn(len(texts))] }

// samples are values that are of their syntax, at its number.
var samples = [][]string{
	{},
	{"a", "Ada  Lovelace", " \t", "CAF\u00c9 \u20ac\U0001f600", "a\x00b", "Ann van Bo", "*\\"},
	{"a", "Ada  Lovelace", " \t", "CAF\u00c9 \u20ac\U0001f600", "a\x00b", "Ann van Bo", "*\\"},
	{"", "Ann@X ", "\x7f\x00", "  ", "a  B\tc"},
	{"", "/Home  X", "\x7f\x00", "  ", "a  B\tc"},
	{"0", "12 34", "  ", " 007 "},
	{"+1 (555) 01-02 X", "- -", "'()+,./:=?", "a"},
	{"0", "-1", "12", "-120", "9223372036854775807", "-9223372036854775808", "9223372036854775808", "-9223372036854775809", "100000000000000000000000"},
	{"TRUE", "FALSE"},
	{"", " A\xff", "\x00", "a*b"},
	{"", "CN=A  b , O=x", `cn=a\,b,o=x`, "o=b", "cn=a,o=b", "sn=x+cn=y,O=B"},
	{"2.5.4.3", "inetOrgPerson", "0.0", "a-1", "10.20"},
	{"20240229120000Z", "2024022912+0130", "20231231233000.500-0045", "202401010000Z", "00000101000000,05Z"},
	{"1 High  St$Oslo", `A\24\5CB$ `, `\5c`, "a$b$c", "\u00c9$ x "},
	{"'0101'B", "''B", "'1'B"},
}

// someText is a text of bytes that mean something to some syntax.
func someText(r *rand.Rand) string {
	var out strings.Builder
	for range r.Intn(7) {
		out.WriteString(pick(r, "a", "B", "Z", "0", "1", "9", "-", ".", " ", " ", "  ", "\t", "\r", "$", "\\", `\24`, `\5C`, `\2a`, "*", "'", "'B", "=", "cn=", ",", "+", "TRUE", "Z", "\x00", "\x7f", "\x80", "\xff", "\u00e9", "\u20ac"))
	}
	return out.String()
}

// someValue is a value of some syntax, or near to one, or none.
func someValue(r *rand.Rand) string {
	row := samples[1+r.Intn(len(samples)-1)]
	value := pick(r, row...)
	switch r.Intn(4) {
	case 0:
		return someText(r)
	case 1:
		at := r.Intn(len(value) + 1)
		return value[:at] + pick(r, "a", "0", " ", "-", "\\", "$", "*", "'", "\xff") + value[at:]
	}
	return value
}

// somePattern is a pattern of pieces of texts, most often.
func somePattern(r *rand.Rand, piece func(r *rand.Rand) string) api.Pattern {
	var p api.Pattern
	if r.Intn(2) == 0 {
		p.Initial = piece(r)
	}
	for range r.Intn(4) {
		p.Any = append(p.Any, piece(r))
	}
	if r.Intn(2) == 0 {
		p.Final = piece(r)
	}
	return p
}
