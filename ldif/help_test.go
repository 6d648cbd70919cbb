package ldif

import (
	"encoding/base64"
	"math/rand"
	"regexp"
	"slices"
	"strings"
	"testing"

	"roster/api"
)

// fault is an error with the number that is told for it.
type fault struct {
	err api.Errno
	at  int
}

// slowPhysical tells the physical lines of a text.
func slowPhysical(s string) []string {
	var out []string
	for _, piece := range strings.SplitAfter(s, "\n") {
		switch {
		case strings.HasSuffix(piece, "\r\n"):
			out = append(out, piece[:len(piece)-2])
		case strings.HasSuffix(piece, "\n"):
			out = append(out, piece[:len(piece)-1])
		case piece != "":
			out = append(out, piece)
		}
	}
	return out
}

// slowLines is P7.1: all faults first, then the lines.
func slowLines(s string) ([]api.Line, fault) {
	physical := slowPhysical(s)
	for i, line := range physical {
		switch {
		case strings.Count(line, "\r") > 0:
			return nil, fault{70, i + 1}
		case strings.HasPrefix(line, " ") && (i == 0 || physical[i-1] == ""):
			return nil, fault{71, i + 1}
		}
	}
	var out []api.Line
	for i := 0; i < len(physical); {
		whole := api.Line{Number: i + 1, Text: physical[i]}
		for i++; i < len(physical) && strings.HasPrefix(physical[i], " "); i++ {
			whole.Text += physical[i][1:]
		}
		out = append(out, whole)
	}
	return out, fault{}
}

func form(s string) *regexp.Regexp { return regexp.MustCompile(`^(?:` + s + `)$`) }

// The letters of either case stand written out: to ignore the case would take letters beyond ASCII as well.
var (
	versionForm  = form(`[Vv][Ee][Rr][Ss][Ii][Oo][Nn]: *1`)
	nameForm     = form(`[Dd][Nn]:(?s:.*)`)
	changeForm   = form(`[Cc][Hh][Aa][Nn][Gg][Ee][Tt][Yy][Pp][Ee]|[Cc][Oo][Nn][Tt][Rr][Oo][Ll]`)
	dnForm       = form(`[Dd][Nn]`)
	descForm     = form(`(?:[A-Za-z][A-Za-z0-9-]*|(?:0|[1-9][0-9]*)(?:\.(?:0|[1-9][0-9]*))+)(?:;[A-Za-z0-9-]+)*`)
	fillForm     = regexp.MustCompile(`^ *`)
	safeForm     = form(`|[\x01-\x09\x0b\x0c\x0e-\x1f!-9;=-\x7f][\x01-\x09\x0b\x0c\x0e-\x7f]*`)
	strictBase64 = base64.StdEncoding.Strict()
)

// slowValue is the chapter's words for a value's text; 0: it gives a value.
func slowValue(s string) (string, api.Errno) {
	if strings.HasPrefix(s, "<") {
		return "", 77
	}
	if strings.HasPrefix(s, ":") {
		value, err := strictBase64.DecodeString(fillForm.ReplaceAllString(s[1:], ""))
		if err != nil {
			return "", 76
		}
		return string(value), 0
	}
	value := s[len(fillForm.FindString(s)):]
	if !safeForm.MatchString(value) {
		return "", 76
	}
	return value, 0
}

// slowRecord reads the lines of one record.
func slowRecord(lines []api.Line) (api.Record, fault) {
	if !nameForm.MatchString(lines[0].Text) {
		return api.Record{}, fault{73, lines[0].Number}
	}
	name, err := slowValue(lines[0].Text[3:])
	if err != 0 {
		return api.Record{}, fault{74, lines[0].Number}
	}
	if len(lines) == 1 {
		return api.Record{}, fault{79, lines[0].Number}
	}
	record := api.Record{Line: lines[0].Number, Name: name}
	for i, line := range lines[1:] {
		colon := strings.IndexByte(line.Text, ':')
		if colon < 0 || !descForm.MatchString(line.Text[:colon]) || dnForm.MatchString(line.Text[:colon]) {
			return api.Record{}, fault{75, line.Number}
		}
		if i == 0 && changeForm.MatchString(line.Text[:colon]) {
			return api.Record{}, fault{78, line.Number}
		}
		value, err := slowValue(line.Text[colon+1:])
		if err != 0 {
			return api.Record{}, fault{err, line.Number}
		}
		record.Pairs = append(record.Pairs, api.Pair{Desc: line.Text[:colon], Value: value})
	}
	return record, fault{}
}

// slowBlocks are the runs of lines between blank ones.
func slowBlocks(lines []api.Line) [][]api.Line {
	var out [][]api.Line
	open := false
	for _, line := range lines {
		switch {
		case line.Text == "":
			open = false
		case !open:
			out = append(out, []api.Line{line})
			open = true
		default:
			out[len(out)-1] = append(out[len(out)-1], line)
		}
	}
	return out
}

// slowRead is P7.2 and P7.3: the records ahead of the fault, and the fault.
func slowRead(s string) ([]api.Record, fault) {
	lines, refused := slowLines(s)
	if refused != (fault{}) {
		return nil, refused
	}
	end := len(slowPhysical(s)) + 1
	lines = slices.DeleteFunc(lines, func(l api.Line) bool { return strings.HasPrefix(l.Text, "#") })
	blocks := slowBlocks(lines)
	if len(blocks) == 0 {
		return nil, fault{72, end}
	}
	if !versionForm.MatchString(blocks[0][0].Text) {
		return nil, fault{72, blocks[0][0].Number}
	}
	// The version line may stand right ahead of the first record.
	blocks[0] = blocks[0][1:]
	if len(blocks[0]) == 0 {
		blocks = blocks[1:]
	}
	if len(blocks) == 0 {
		return nil, fault{73, end}
	}
	var out []api.Record
	for _, block := range blocks {
		record, refused := slowRecord(block)
		if refused != (fault{}) {
			return out, refused
		}
		out = append(out, record)
	}
	return out, fault{}
}

// slowRender is P7.4.
func slowRender(records []api.Record) (string, fault) {
	if len(records) == 0 {
		return "", fault{73, 0}
	}
	out := "version: 1\n"
	for place, record := range records {
		if len(record.Pairs) == 0 {
			return "", fault{79, place}
		}
		out += "\n" + slowPair("dn", record.Name)
		for i, pair := range record.Pairs {
			switch {
			case !descForm.MatchString(pair.Desc) || dnForm.MatchString(pair.Desc):
				return "", fault{75, place}
			case i == 0 && changeForm.MatchString(pair.Desc):
				return "", fault{78, place}
			}
			out += slowPair(pair.Desc, pair.Value)
		}
	}
	return out, fault{}
}

func slowPair(desc, value string) string {
	switch {
	case value == "":
		return desc + ":\n"
	case safeForm.MatchString(value) && !strings.HasSuffix(value, " "):
		return desc + ": " + value + "\n"
	}
	return desc + ":: " + base64.StdEncoding.EncodeToString([]byte(value)) + "\n"
}

// slowRefold is P7.5.
func slowRefold(s string, width int) (string, fault) {
	if width < 2 {
		return "", fault{1, 0}
	}
	lines, refused := slowLines(s)
	if refused != (fault{}) {
		return "", refused
	}
	var out []byte
	for _, line := range lines {
		room := width
		for i := range len(line.Text) {
			if room == 0 {
				out = append(out, "\n "...)
				room = width - 1
			}
			out = append(out, line.Text[i])
			room--
		}
		out = append(out, '\n')
	}
	return string(out), fault{}
}

func sameRecord(a, b api.Record) bool {
	return a.Line == b.Line && a.Name == b.Name && slices.Equal(a.Pairs, b.Pairs)
}

func sameRecords(a, b []api.Record) bool { return slices.EqualFunc(a, b, sameRecord) }

// unnumbered is the records without their lines.
func unnumbered(records []api.Record) []api.Record {
	out := slices.Clone(records)
	for i := range out {
		out[i].Line = 0
	}
	return out
}

func texts(lines []api.Line) []string {
	var out []string
	for _, line := range lines {
		out = append(out, line.Text)
	}
	return out
}

// lines are lines of numbers and texts by turns.
func lines(words ...any) []api.Line {
	var out []api.Line
	for i := 0; i < len(words); i += 2 {
		out = append(out, api.Line{Number: words[i].(int), Text: words[i+1].(string)})
	}
	return out
}

// record is a record of a name and of descriptions and values by turns.
func record(line int, name string, words ...string) api.Record {
	r := api.Record{Line: line, Name: name}
	for i := 0; i < len(words); i += 2 {
		r.Pairs = append(r.Pairs, api.Pair{Desc: words[i], Value: words[i+1]})
	}
	return r
}

func holdLines(t *testing.T, s string) {
	t.Helper()
	want, refused := slowLines(s)
	got, err, at := Lines(s)
	if !slices.Equal(got, want) || (fault{err, at}) != refused {
		t.Fatalf("Lines(%#v) = %#v, %d, %d; want %#v, %v", s, got, err, at, want, refused)
	}
}

// holdRead holds Load and Records at a text.
func holdRead(t *testing.T, s string) {
	t.Helper()
	ahead, refused := slowRead(s)
	want := ahead
	if refused != (fault{}) {
		want = nil
	}
	got, err, at := Load(s)
	if !sameRecords(got, want) || (fault{err, at}) != refused {
		t.Fatalf("Load(%#v) = %#v, %d, %d; want %#v, %v", s, got, err, at, want, refused)
	}
	if got := slices.Collect(Records(s)); !sameRecords(got, ahead) {
		t.Fatalf("Records(%#v) gives %#v; want %#v", s, got, ahead)
	}
}

// holdRender holds Render, and that Load takes what it answers back.
func holdRender(t *testing.T, records []api.Record) {
	t.Helper()
	want, refused := slowRender(records)
	got, err, at := Render(records)
	if got != want || (fault{err, at}) != refused {
		t.Fatalf("Render(%#v) = %#v, %d, %d; want %#v, %v", records, got, err, at, want, refused)
	}
	if refused != (fault{}) {
		return
	}
	back, err, at := Load(got)
	if !sameRecords(unnumbered(back), unnumbered(records)) || err != 0 || at != 0 {
		t.Fatalf("Load(%#v) = %#v, %d, %d; want %#v", got, back, err, at, records)
	}
}

// holdRefold holds Refold, and that what it answers has the same lines, names and pairs.
func holdRefold(t *testing.T, s string, width int) {
	t.Helper()
	want, refused := slowRefold(s, width)
	got, err, at := Refold(s, width)
	if got != want || (fault{err, at}) != refused {
		t.Fatalf("Refold(%q, %d) = %q, %d, %d; want %q, %v", s, width, got, err, at, want, refused)
	}
	if refused != (fault{}) {
		return
	}
	lines, _, _ := Lines(s)
	again, err, _ := Lines(got)
	if !slices.Equal(texts(again), texts(lines)) || err != 0 {
		t.Fatalf("Lines(Refold(%#v, %d)) = %#v, %d; want %#v", s, width, again, err, lines)
	}
	records, wantErr, _ := Load(s)
	back, err, _ := Load(got)
	if !sameRecords(unnumbered(back), unnumbered(records)) || err != wantErr {
		t.Fatalf("Load(Refold(%#v, %d)) = %#v, %d; want %#v, %d", s, width, back, err, records, wantErr)
	}
}

// forAll goes through all texts of at most that many of the pieces.
func forAll(pieces []string, most int, do func(s string)) {
	do("")
	if most == 0 {
		return
	}
	for _, piece := range pieces {
		forAll(pieces, most-1, func(rest string) { do(piece + rest) })
	}
}

// forAllNear goes through the texts that one byte more, less or turned makes of s.
func forAllNear(s string, do func(s string)) {
	for i := range len(s) + 1 {
		for b := range 256 {
			do(s[:i] + string([]byte{byte(b)}) + s[i:])
			if i < len(s) {
				do(s[:i] + string([]byte{byte(b)}) + s[i+1:])
			}
		}
		if i < len(s) {
			do(s[:i] + s[i+1:])
		}
	}
}

func pick(r *rand.Rand, of ...string) string { return of[r.Intn(len(of))] }

// someDesc is a description, now and then one that just isn't, or a word of the chapter's.
func someDesc(r *rand.Rand) string {
	return pick(r, "o", "CN", "sn;lang-de", "2.5.4.3", "1.2.3;x", "a-1;-;B", "dn;x", "dnx", "version",
		"o", "cn", "l", "st", "ou", "dn", "Dn", "changetype", "CONTROL", "Control", "", "o ", "o;", "1", "a_")
}

// someBytes is a value of any kind.
func someBytes(r *rand.Rand) string {
	var out strings.Builder
	for range r.Intn(6) {
		out.WriteString(pick(r, "a", "bc", " ", ":", "<", "#", "=", "\t", "caf\xc3\xa9", "\xff", "\n", "\r", "\x00", "1"))
	}
	return out.String()
}

// someSpec is a value's text.
func someSpec(r *rand.Rand) string {
	switch r.Intn(8) {
	case 0:
		return pick(r, ":", "::", "<", "<x", " <x", " :x", ":Zg=", ": Zh==", ": Zg== ", ":\tZg==", " \xc3\xa9", "\x00")
	case 1, 2:
		return pick(r, ":", ": ", ":   ") + base64.StdEncoding.EncodeToString([]byte(someBytes(r)))
	}
	return pick(r, "", " ", "   ") + pick(r, "", "x", "x y", "o=x", "#", "x ", "x: y", "\tx")
}

// someLine is a line of a snapshot without its end, most often in its place.
func someLine(r *rand.Rand, at int) string {
	switch r.Intn(12) {
	case 0:
		return pick(r, "", "#c", "# dn: o=x", " ", " x", "  ")
	case 1:
		return someDesc(r) + someSpec(r)
	}
	switch {
	case at == 0:
		return pick(r, "version: 1", "version:1", "VERSION:  1")
	case at%4 == 1:
		return pick(r, "dn:", "DN:", "dN:") + someSpec(r)
	case at%4 == 0:
		return ""
	}
	return someDesc(r) + ":" + someSpec(r)
}

// someSnapshot is a text that now and then is a snapshot.
func someSnapshot(r *rand.Rand) string {
	var out strings.Builder
	for at := range r.Intn(14) {
		out.WriteString(someLine(r, at))
		if r.Intn(6) == 0 {
			out.WriteString(pick(r, "\n ", "\n  ", "\n \n ", "\r\n "))
		}
		out.WriteString(pick(r, "\n", "\n", "\n", "\n", "\r\n", "\r\n", "\n\n"))
	}
	s := out.String()
	if r.Intn(3) == 0 {
		s = strings.TrimRight(s, "\n")
	}
	return s
}

// someRecords are records that now and then can be rendered.
func someRecords(r *rand.Rand) []api.Record {
	var out []api.Record
	for range r.Intn(4) {
		one := api.Record{Line: r.Intn(5) - 1, Name: someBytes(r)}
		for range r.Intn(4) {
			one.Pairs = append(one.Pairs, api.Pair{Desc: someDesc(r), Value: someBytes(r)})
		}
		out = append(out, one)
	}
	return out
}
