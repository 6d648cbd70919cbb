package dn

import (
	"encoding/hex"
	"errors"
	"math/rand"
	"regexp"
	"slices"
	"sort"
	"strings"
	"testing"
	"unicode/utf8"

	"roster/api"
	"roster/attr"
)

// reason is a row of the chapter's table of errors.
type reason struct {
	sentinel error
	number   api.Errno
}

func reasons() []reason {
	return []reason{
		{ErrLong, 50}, {ErrUTF8, 51}, {ErrType, 52}, {ErrEquals, 53}, {ErrEscape, 54},
		{ErrChar, 55}, {ErrHex, 56}, {ErrTwice, 57}, {ErrWide, 58}, {ErrMade, 59},
	}
}

// holdError holds an error against the number and the place that are wanted; OK: no error.
func holdError(t *testing.T, err error, number api.Errno, place int, call string, args ...any) {
	t.Helper()
	gotNumber, gotPlace := Fault(err)
	if (err == nil) != (number == api.OK) || gotNumber != number || gotPlace != place {
		t.Fatalf(call+": error %d, %d (%v); want %d, %d", append(args, gotNumber, gotPlace, err, number, place)...)
	}
	for _, r := range reasons() {
		if errors.Is(err, r.sentinel) != (r.number == number) {
			t.Fatalf(call+": errors.Is of the sentinel of %d is %v", append(args, r.number, errors.Is(err, r.sentinel))...)
		}
	}
}

func one(typ, value string) api.RDN { return api.RDN{{Type: typ, Value: value}} }

// part is a part of the types and values that are told by turns.
func part(texts ...string) api.RDN {
	var r api.RDN
	for i := 0; i < len(texts); i += 2 {
		r = append(r, api.AVA{Type: texts[i], Value: texts[i+1]})
	}
	return r
}

func sameDN(a, b api.DN) bool {
	return slices.EqualFunc(a, b, func(a, b api.RDN) bool { return slices.Equal(a, b) })
}

// slowType is the chapter's words for a type.
var slowType = regexp.MustCompile(`^([A-Za-z][A-Za-z0-9-]*|(0|[1-9][0-9]*)(\.(0|[1-9][0-9]*))+)$`)

// slowNames is what the table of types calls each of them, to the first of its names.
var slowNames = func() map[string]string {
	names := map[string]string{}
	for _, row := range attr.Types() {
		for _, name := range append([]string{row.Name, row.OID}, row.Aliases...) {
			names[name] = row.Name
		}
	}
	return names
}()

// slowCanonical is the canonical type; "", if the text is no type.
func slowCanonical(typ string) string {
	if !slowType.MatchString(typ) {
		return ""
	}
	folded := lower(typ)
	if name, known := slowNames[folded]; known {
		return name
	}
	return folded
}

// The forms that a text is made of, as the chapter's steps tell them.
var (
	formSpaces = regexp.MustCompile(`^ *`)
	formRow    = regexp.MustCompile(`^[A-Za-z0-9.-]*`)
	formHex    = regexp.MustCompile(`^[0-9A-Fa-f]*`)
	formPiece  = regexp.MustCompile(`\\[\\"+,;<>#= ]|\\[0-9A-Fa-f]{2}|(?s:[^\x00"+,;<>\\])`)
	formValue  = regexp.MustCompile(`^(` + formPiece.String() + `)*`)
)

// slowReader goes through a text by regular expressions, and gives up by a panic.
type slowReader struct {
	text string
	at   int
}

type slowFault struct {
	number api.Errno
	place  int
}

func (r *slowReader) match(form *regexp.Regexp) string {
	found := form.FindString(r.text[r.at:])
	r.at += len(found)
	return found
}

// next is the byte here, as a text; "" at the end.
func (r *slowReader) next() string {
	return r.text[r.at:min(r.at+1, len(r.text))]
}

// slowParse is the section 'How a text is read', step by step.
func slowParse(s string) (d api.DN, number api.Errno, place int) {
	defer func() {
		if f, ok := recover().(slowFault); ok {
			d, number, place = nil, f.number, f.place
		}
	}()
	if len(s) > 4096 {
		return nil, 50, 4096
	}
	if !utf8.ValidString(s) {
		return nil, 51, slowCheck(s)
	}
	if s == "" {
		return nil, 0, 0
	}
	r := &slowReader{text: s}
	d = api.DN{nil}
	for {
		last := len(d) - 1
		d[last] = append(d[last], r.pair(len(d), d[last]))
		switch r.next() {
		case "":
			return d, 0, 0
		case ",":
			d = append(d, nil)
		}
		r.at++
	}
}

func slowCheck(s string) int {
	at := 0
	for {
		if _, size := utf8.DecodeRuneInString(s[at:]); size > 1 || at < len(s) && s[at] < 0x80 {
			at += size
			continue
		}
		return at
	}
}

// pair is the steps 1 to 5 of a pair behind those ahead, in a part of this number from 1 on.
func (r *slowReader) pair(parts int, ahead api.RDN) api.AVA {
	r.match(formSpaces)
	begin := r.at
	if parts > 64 || len(ahead) == 8 {
		panic(slowFault{58, begin})
	}
	typ := r.match(formRow)
	if slowCanonical(typ) == "" {
		panic(slowFault{52, begin})
	}
	for _, pair := range ahead {
		if slowCanonical(pair.Type) == slowCanonical(typ) {
			panic(slowFault{57, begin})
		}
	}
	r.match(formSpaces)
	if r.next() != "=" {
		panic(slowFault{53, r.at})
	}
	r.at++
	r.match(formSpaces)
	valueAt := r.at
	value := r.value()
	if !utf8.ValidString(value) {
		panic(slowFault{51, valueAt})
	}
	return api.AVA{Type: typ, Value: value}
}

func (r *slowReader) value() string {
	if r.next() == "#" {
		return r.hexValue()
	}
	pieces := formPiece.FindAllString(r.match(formValue), -1)
	switch next := r.next(); {
	case next == "\\":
		panic(slowFault{54, r.at})
	case !strings.Contains(",+", next):
		panic(slowFault{55, r.at})
	}
	for len(pieces) > 0 && pieces[len(pieces)-1] == " " {
		pieces = pieces[:len(pieces)-1]
	}
	var value strings.Builder
	for _, piece := range pieces {
		switch {
		case len(piece) == 3 && piece[0] == '\\':
			code, _ := hex.DecodeString(piece[1:])
			value.Write(code)
		case len(piece) == 2 && piece[0] == '\\':
			value.WriteByte(piece[1])
		default:
			value.WriteString(piece)
		}
	}
	return value.String()
}

func (r *slowReader) hexValue() string {
	sign := r.at
	r.at++
	value, ok := slowElement(r.match(formHex))
	if !ok {
		panic(slowFault{56, sign})
	}
	r.match(formSpaces)
	if !strings.Contains(",+", r.next()) {
		panic(slowFault{55, r.at})
	}
	return value
}

// slowElement is the content of an element of one of the four tags, with nothing behind it.
func slowElement(digits string) (string, bool) {
	b, err := hex.DecodeString(digits)
	if err != nil || len(b) < 2 || !slices.Contains([]byte{0x04, 0x0c, 0x13, 0x16}, b[0]) {
		return "", false
	}
	length, body := int(b[1]), b[2:]
	if further := int(b[1]) - 0x80; further >= 0 {
		if further < 1 || further > 4 || len(body) < further {
			return "", false
		}
		length = 0
		for _, digit := range body[:further] {
			length = length*256 + int(digit)
		}
		body = body[further:]
	}
	return string(body), len(body) == length
}

// slowEscape is the chapter's word.
func slowEscape(value string) string {
	var out strings.Builder
	for i, r := range value {
		switch {
		case r == 0:
			out.WriteString("\\00")
			continue
		case strings.ContainsRune("\\\"+,;<>", r), i == 0 && (r == ' ' || r == '#'), i == len(value)-1 && r == ' ':
			out.WriteString("\\")
		}
		out.WriteRune(r)
	}
	return out.String()
}

// slowFaultOf is the refusals of P5.3, but that of the length.
func slowFaultOf(d api.DN) (api.Errno, int) {
	for number, part := range d {
		if number == 64 {
			return 58, number
		}
		if len(part) == 0 {
			return 59, number
		}
		if len(part) > 8 {
			return 58, number
		}
		seen := map[string]bool{}
		for _, pair := range part {
			canonical := slowCanonical(pair.Type)
			if canonical == "" {
				return 59, number
			}
			if seen[canonical] {
				return 57, number
			}
			if !utf8.ValidString(pair.Value) {
				return 51, number
			}
			seen[canonical] = true
		}
	}
	return 0, 0
}

// slowPrint is P5.3.
func slowPrint(d api.DN) (string, api.Errno, int) {
	if number, place := slowFaultOf(d); number != 0 {
		return "", number, place
	}
	var parts []string
	for _, part := range d {
		var pairs []string
		for _, pair := range part {
			pairs = append(pairs, pair.Type+"="+slowEscape(pair.Value))
		}
		parts = append(parts, strings.Join(pairs, "+"))
	}
	out := strings.Join(parts, ",")
	if len(out) > 4096 {
		return "", 50, len(d)
	}
	return out, 0, 0
}

var formBlanks = regexp.MustCompile(`[\t-\r ]+`)

// slowKey is P5.5.
func slowKey(d api.DN) ([]string, api.Errno, int) {
	if number, place := slowFaultOf(d); number != 0 {
		return nil, number, place
	}
	var key []string
	for i := len(d) - 1; i >= 0; i-- {
		var types []string
		values := map[string]string{}
		for _, pair := range d[i] {
			canonical := slowCanonical(pair.Type)
			types = append(types, canonical)
			values[canonical] = strings.Trim(formBlanks.ReplaceAllString(lower(pair.Value), " "), " ")
		}
		sort.Strings(types)
		for j, typ := range types {
			types[j] = typ + "=" + slowEscape(values[typ])
		}
		key = append(key, strings.Join(types, "+"))
	}
	return key, 0, 0
}

// lower folds byte by byte: strings.ToLower would turn letters beyond ASCII as well.
func lower(s string) string {
	out := []byte(s)
	for i, b := range out {
		if strings.IndexByte("ABCDEFGHIJKLMNOPQRSTUVWXYZ", b) >= 0 {
			out[i] = b + 32
		}
	}
	return string(out)
}

// holdText holds the calls that read a text against the chapter told a second time.
func holdText(t *testing.T, s string) {
	t.Helper()
	want, number, place := slowParse(s)
	d, err := Parse(s)
	holdError(t, err, number, place, "Parse(%.200q)", s)
	if !sameDN(d, want) {
		t.Fatalf("Parse(%.200q) = %.400q; want %.400q", s, d, want)
	}
	wantKey, _, _ := slowKey(want)
	key, err := KeyOf(s)
	holdError(t, err, number, place, "KeyOf(%.200q)", s)
	if !slices.Equal(key, wantKey) {
		t.Fatalf("KeyOf(%.200q) = %.400q; want %.400q", s, key, wantKey)
	}
	if number == api.OK {
		holdName(t, d)
	}
}

// holdName holds the calls that take a DN against the chapter told a second time; the DN need not be a name.
func holdName(t *testing.T, d api.DN) {
	t.Helper()
	want, number, place := slowPrint(d)
	s, err := Print(d)
	holdError(t, err, number, place, "Print(%.400q)", d)
	if s != want {
		t.Fatalf("Print(%.400q) = %.400q; want %.400q", d, s, want)
	}
	wantKey, number, place := slowKey(d)
	key, err := Key(d)
	holdError(t, err, number, place, "Key(%.400q)", d)
	if !slices.Equal(key, wantKey) {
		t.Fatalf("Key(%.400q) = %.400q; want %.400q", d, key, wantKey)
	}
	for _, r := range d {
		holdPart(t, r)
	}
}

func holdPart(t *testing.T, r api.RDN) {
	t.Helper()
	want := ""
	key, number, place := slowKey(api.DN{r})
	if number == api.OK {
		want = key[0]
	}
	s, err := Part(r)
	holdError(t, err, number, place, "Part(%.400q)", r)
	if s != want {
		t.Fatalf("Part(%.400q) = %.400q; want %.400q", r, s, want)
	}
}

// forAll calls f with every text of at most longest bytes, all of them out of letters.
func forAll(letters string, longest int, f func(s string)) {
	var grow func(front []byte)
	grow = func(front []byte) {
		f(string(front))
		if len(front) == longest {
			return
		}
		for i := 0; i < len(letters); i++ {
			grow(append(front, letters[i]))
		}
	}
	grow(make([]byte, 0, longest))
}

// pick is one of the texts.
func pick(r *rand.Rand, texts ...string) string { return texts[r.Intn(len(texts))] }

// someTypes are such that a part may have one of each row.
var someTypes = [][]string{
	{"cn", "CN", "commonName", "COMMONNAME", "2.5.4.3"},
	{"sn", "Sn", "surname", "2.5.4.4"},
	{"o", "O", "organizationName", "2.5.4.10"},
	{"dc", "DC", "domainComponent", "0.9.2342.19200300.100.1.25"},
	{"X-Odd", "x-odd", "x-ODD"},
	{"1.2.3"}, {"1.2.30"}, {"0.0"}, {"a-"}, {"Q9", "q9"},
}

// someValue is a text with many bytes that must be escaped.
func someValue(r *rand.Rand) string {
	var out strings.Builder
	for range r.Intn(6) {
		out.WriteString(pick(r, "a", "B", "Z", "0", " ", " ", "  ", "\t", "\n", "#", "=", ",", "+", "\\", "\"", ";", "<", ">", "\x00", "\x7f", "\u00e9", "\u00c9", "\u20ac", "\U0001f600"))
	}
	return out.String()
}

// someName is a name, most often.
func someName(r *rand.Rand) api.DN {
	var d api.DN
	for range r.Intn(5) {
		var part api.RDN
		for _, row := range r.Perm(len(someTypes))[:1+r.Intn(4)] {
			part = append(part, api.AVA{Type: pick(r, someTypes[row]...), Value: someValue(r)})
		}
		d = append(d, part)
	}
	return d
}
