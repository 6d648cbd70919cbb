package change

import (
	"encoding/base64"
	"fmt"
	"regexp"
	"slices"
	"strings"
	"testing"

	"roster/api"
	"roster/attr"
	"roster/ldif"
	"roster/msg"
)

// The front of all texts; of one record; and of records of the kinds that have lines of their own.
const (
	v       = "version: 1\n"
	named   = v + "dn: o=x\n"
	adding  = named + "changetype: add\n"
	erasing = named + "changetype: delete\n"
	turning = named + "changetype: modify\n"
	moving  = named + "changetype: modrdn\n"
	bearing = named + "control:"
)

// fault is an error with the number that is told for it.
type fault struct {
	err api.Errno
	at  int
}

// told is a value as a text: what has another text is another value, but that nil and empty lists are the same.
func told(x any) string { return strings.ReplaceAll(fmt.Sprintf("%#v", x), "(nil)", "{}") }

// lower folds byte by byte: strings.ToLower would turn letters beyond ASCII as well.
func lower(s string) string {
	out := []byte(s)
	for i, b := range out {
		if b >= 'A' && b <= 'Z' {
			out[i] = b + 32
		}
	}
	return string(out)
}

// The chapter told a second time.

var (
	formLine       = regexp.MustCompile(`[^\n]*\n|[^\n]+\z`)
	formVersion    = regexp.MustCompile(`^[vV][eE][rR][sS][iI][oO][nN]: *1\z`)
	formIdentifier = regexp.MustCompile(`^(?:0|[1-9][0-9]*)(?:\.(?:0|[1-9][0-9]*))+\z`)
	formDesc       = regexp.MustCompile(`^(?:[A-Za-z][A-Za-z0-9-]*|(?:0|[1-9][0-9]*)(?:\.(?:0|[1-9][0-9]*))+)(?:;[A-Za-z0-9-]+)*\z`)
	formSafe       = regexp.MustCompile(`^(?:[\x01-\x09\x0b\x0c\x0e-\x1f!-9;=-\x7f][\x01-\x09\x0b\x0c\x0e-\x7f]*)?\z`)
	formControl    = regexp.MustCompile(`(?s)^ *([0-9.]+)(?: +([A-Za-z]+))?(:.*)?\z`)
	formFill       = regexp.MustCompile(`^ *`)
	strictBase64   = base64.StdEncoding.Strict()
)

// unfilled is a text without the fill at its front.
func unfilled(s string) string { return formFill.ReplaceAllString(s, "") }

// slowValue is what a value's text gives; 0: a value.
func slowValue(s string) (string, api.Errno) {
	switch {
	case s != "" && s[0] == '<':
		return "", 77
	case s != "" && s[0] == ':':
		value, err := strictBase64.DecodeString(unfilled(s[1:]))
		if err != nil {
			return "", 76
		}
		return string(value), 0
	case !formSafe.MatchString(unfilled(s)):
		return "", 76
	}
	return unfilled(s), 0
}

// slowDesc tells whether a text may stand where a description does.
func slowDesc(s string) bool { return formDesc.MatchString(s) && lower(s) != "dn" }

// slowBlocks are the lines of the records, and the end's number; or the fault ahead of all records.
func slowBlocks(s string) ([][]api.Line, fault) {
	all, err, number := ldif.Lines(s)
	end := len(formLine.FindAllString(s, -1)) + 1
	if err != 0 {
		return nil, fault{err, number}
	}
	var out [][]api.Line
	version, open := false, false
	for _, line := range all {
		switch {
		case line.Text == "":
			open = false
		case line.Text[0] == '#':
		case !version && !formVersion.MatchString(line.Text):
			return nil, fault{72, line.Number}
		case !version:
			version = true
		case open:
			out[len(out)-1] = append(out[len(out)-1], line)
		default:
			out, open = append(out, []api.Line{line}), true
		}
	}
	if !version {
		return nil, fault{72, end}
	}
	if len(out) == 0 {
		return nil, fault{73, end}
	}
	return out, fault{}
}

// slow goes through a record's lines: state is what may come next, begun the line of the modification that is open.
type slow struct {
	state  string
	begun  int
	record api.ChangeRecord
}

// slowEnds are the faults of records that end in a state, of their first line.
var slowEnds = map[string]api.Errno{"controls": 200, "first pair": 79, "newrdn": 203, "deleteoldrdn": 204}

func slowRecord(lines []api.Line) (api.ChangeRecord, fault) {
	x := slow{state: "dn", record: api.ChangeRecord{Line: lines[0].Number}}
	for _, line := range lines {
		if err := x.take(line); err != 0 {
			return api.ChangeRecord{}, fault{err, line.Number}
		}
	}
	if x.state == "values" {
		return api.ChangeRecord{}, fault{202, x.begun}
	}
	if err := slowEnds[x.state]; err != 0 {
		return api.ChangeRecord{}, fault{err, lines[0].Number}
	}
	return x.record, fault{}
}

// take reads one line.
func (x *slow) take(line api.Line) api.Errno {
	colon := strings.IndexByte(line.Text, ':')
	ahead, behind, word := "", "", "no word"
	if colon >= 0 {
		ahead, behind = line.Text[:colon], line.Text[colon+1:]
		word = lower(ahead)
	}
	value, err := slowValue(behind)
	c := &x.record
	switch x.state {
	case "dn":
		if word != "dn" {
			return 73
		}
		if err != 0 {
			return 74
		}
		c.Name, x.state = value, "controls"
	case "controls":
		if word == "control" {
			return x.control(behind)
		}
		return x.changeType(word, behind)
	case "first pair", "pairs":
		if !slowDesc(ahead) {
			return 75
		}
		c.Pairs, x.state = append(c.Pairs, api.Pair{Desc: ahead, Value: value}), "pairs"
		return err
	case "modification", "values":
		return x.modify(line, ahead, behind)
	case "newrdn":
		if word != "newrdn" || err != 0 {
			return 203
		}
		c.NewRDN, x.state = value, "deleteoldrdn"
	case "deleteoldrdn":
		if said := unfilled(behind); word != "deleteoldrdn" || said != "0" && said != "1" {
			return 204
		}
		c.DeleteOld, x.state = strings.HasSuffix(behind, "1"), "newsuperior"
	case "newsuperior":
		if word != "newsuperior" {
			return 201
		}
		if err != 0 {
			return 74
		}
		c.NewSuperior, c.HasNewSuperior, x.state = value, true, "nothing"
	case "nothing":
		return 201
	}
	return 0
}

func (x *slow) control(behind string) api.Errno {
	m := formControl.FindStringSubmatch(behind)
	if m == nil || !formIdentifier.MatchString(m[1]) || m[2] != "" && lower(m[2]) != "true" && lower(m[2]) != "false" {
		return 205
	}
	c := api.Control{OID: m[1], Critical: lower(m[2]) == "true", HasValue: m[3] != ""}
	var err api.Errno
	if c.HasValue {
		c.Value, err = slowValue(m[3][1:])
	}
	x.record.Controls = append(x.record.Controls, c)
	return err
}

func (x *slow) changeType(word, behind string) api.Errno {
	state, kind := "", api.ChangeKind(0)
	switch lower(unfilled(behind)) {
	case "add":
		state, kind = "first pair", 0
	case "delete":
		state, kind = "nothing", 1
	case "modify":
		state, kind = "modification", 2
	case "modrdn", "moddn":
		state, kind = "newrdn", 3
	}
	if word != "changetype" || state == "" {
		return 200
	}
	x.state, x.record.Kind = state, kind
	return 0
}

func (x *slow) modify(line api.Line, ahead, behind string) api.Errno {
	if x.state == "modification" {
		kind := slices.Index([]string{"add", "delete", "replace"}, lower(ahead))
		if kind < 0 || !slowDesc(unfilled(behind)) {
			return 202
		}
		x.record.Changes = append(x.record.Changes, api.Change{Kind: kind, Desc: unfilled(behind)})
		x.state, x.begun = "values", line.Number
		return 0
	}
	if line.Text == "-" {
		x.state = "modification"
		return 0
	}
	if !slowDesc(ahead) {
		return 75
	}
	open := &x.record.Changes[len(x.record.Changes)-1]
	if slowCanonical(ahead) != slowCanonical(open.Desc) {
		return 202
	}
	value, err := slowValue(behind)
	open.Values = append(open.Values, value)
	return err
}

// slowCanonical is a description's canonical form: the type's own word is left to attr.
func slowCanonical(desc string) string {
	parts := strings.Split(lower(desc), ";")
	typ, _, _ := attr.ParseType(parts[0])
	options := parts[1:]
	slices.Sort(options)
	return strings.Join(append([]string{typ}, slices.Compact(options)...), ";")
}

// slowRead is P20.1 and P20.2: the records ahead of the fault, and the fault.
func slowRead(s string) ([]api.ChangeRecord, fault) {
	blocks, refused := slowBlocks(s)
	var out []api.ChangeRecord
	for _, block := range blocks {
		record, bad := slowRecord(block)
		if bad != (fault{}) {
			return out, bad
		}
		out = append(out, record)
	}
	return out, refused
}

// slowWritten tells whether some text means a record.
func slowWritten(c api.ChangeRecord) bool {
	only := api.ChangeRecord{Line: c.Line, Name: c.Name, Controls: c.Controls, Kind: c.Kind}
	var descs []string
	fine := true
	switch c.Kind {
	case 0:
		only.Pairs = c.Pairs
		fine = len(c.Pairs) > 0
	case 1:
	case 2:
		only.Changes = c.Changes
	case 3:
		only.NewRDN, only.DeleteOld, only.NewSuperior, only.HasNewSuperior = c.NewRDN, c.DeleteOld, c.NewSuperior, c.HasNewSuperior
		fine = c.HasNewSuperior || c.NewSuperior == ""
	default:
		return false
	}
	for _, pair := range only.Pairs {
		descs = append(descs, pair.Desc)
	}
	for _, change := range only.Changes {
		descs = append(descs, change.Desc)
		fine = fine && (change.Kind == 0 || change.Kind == 1 || change.Kind == 2)
	}
	for _, control := range c.Controls {
		fine = fine && formIdentifier.MatchString(control.OID) && (control.HasValue || control.Value == "")
	}
	return fine && told(only) == told(c) && !slices.ContainsFunc(descs, func(desc string) bool { return !slowDesc(desc) })
}

// slowSpec is what is written behind a word for a value.
func slowSpec(value string) string {
	switch {
	case value == "":
		return ":"
	case formSafe.MatchString(value) && !strings.HasSuffix(value, " "):
		return ": " + value
	}
	return ":: " + base64.StdEncoding.EncodeToString([]byte(value))
}

// slowRender is P20.3.
func slowRender(cs []api.ChangeRecord) (string, fault) {
	if len(cs) == 0 {
		return "", fault{73, 0}
	}
	if place := slices.IndexFunc(cs, func(c api.ChangeRecord) bool { return !slowWritten(c) }); place >= 0 {
		return "", fault{206, place}
	}
	lines := []string{"version: 1"}
	line := func(word, value string) { lines = append(lines, word+slowSpec(value)) }
	for _, c := range cs {
		lines = append(lines, "")
		line("dn", c.Name)
		for _, control := range c.Controls {
			critical, spec := "", ""
			if control.Critical {
				critical = " true"
			}
			if control.HasValue {
				spec = slowSpec(control.Value)
			}
			lines = append(lines, "control: "+control.OID+critical+spec)
		}
		lines = append(lines, "changetype: "+[]string{"add", "delete", "modify", "modrdn"}[c.Kind])
		for _, pair := range c.Pairs {
			line(pair.Desc, pair.Value)
		}
		for _, change := range c.Changes {
			lines = append(lines, []string{"add: ", "delete: ", "replace: "}[change.Kind]+change.Desc)
			for _, value := range change.Values {
				line(change.Desc, value)
			}
			lines = append(lines, "-")
		}
		if c.Kind == 3 {
			line("newrdn", c.NewRDN)
			lines = append(lines, map[bool]string{true: "deleteoldrdn: 1", false: "deleteoldrdn: 0"}[c.DeleteOld])
		}
		if c.HasNewSuperior {
			line("newsuperior", c.NewSuperior)
		}
	}
	return strings.Join(lines, "\n") + "\n", fault{}
}

// slowRequests is P20.4.
func slowRequests(cs []api.ChangeRecord, first int) ([]api.Request, fault) {
	var out []api.Request
	for place, c := range cs {
		if !slowWritten(c) {
			return nil, fault{206, place}
		}
		r := api.Request{ID: first + place, Name: c.Name, Controls: c.Controls, Changes: c.Changes, NewRDN: c.NewRDN, DeleteOld: c.DeleteOld, NewSuperior: c.NewSuperior, HasNewSuperior: c.HasNewSuperior}
		r.Kind = []api.Kind{api.KindAdd, api.KindDelete, api.KindModify, api.KindRename}[c.Kind]
		for i, pair := range c.Pairs {
			same := func(p api.Pair) bool { return slowCanonical(p.Desc) == slowCanonical(pair.Desc) }
			if slices.IndexFunc(c.Pairs, same) < i {
				continue // it stands with the first of them
			}
			fresh := api.Attr{Desc: pair.Desc}
			for _, p := range c.Pairs {
				if same(p) {
					fresh.Values = append(fresh.Values, p.Value)
				}
			}
			r.Attributes = append(r.Attributes, fresh)
		}
		if _, err := msg.EncodeRequest(r); err != 0 {
			return nil, fault{131, place}
		}
		out = append(out, r)
	}
	return out, fault{}
}

// unnumbered is the records without their lines.
func unnumbered(cs []api.ChangeRecord) []api.ChangeRecord {
	out := slices.Clone(cs)
	for i := range out {
		out[i].Line = 0
	}
	return out
}

// holdText holds Load and Records at a text.
func holdText(t testing.TB, s string) {
	t.Helper()
	ahead, refused := slowRead(s)
	want := ahead
	if refused != (fault{}) {
		want = nil
	}
	if got, err, at := Load(s); told(got) != told(want) || (fault{err, at}) != refused {
		t.Fatalf("Load(%.500q) = %s, %d, %d; want %s, %v", s, told(got), err, at, told(want), refused)
	}
	if got := slices.Collect(Records(s)); told(got) != told(ahead) {
		t.Fatalf("Records(%.500q) gives %s; want %s", s, told(got), told(ahead))
	}
}

// holdLoaded holds which records a text means.
func holdLoaded(t testing.TB, s string, want ...api.ChangeRecord) {
	t.Helper()
	if got, err, at := Load(s); told(got) != told(want) || err != api.OK || at != 0 {
		t.Errorf("Load(%.500q) = %s, %d, %d; want %s", s, told(got), err, at, told(want))
	}
	holdText(t, s)
}

// holdRefused holds for what a text is refused.
func holdRefused(t testing.TB, s string, number api.Errno, line int) {
	t.Helper()
	if got, err, at := Load(s); len(got) != 0 || err != number || at != line {
		t.Errorf("Load(%.500q) = %s, %d, %d; want %d, %d", s, told(got), err, at, number, line)
	}
	holdText(t, s)
}

// holdFolded holds that a text's folding makes no difference.
func holdFolded(t testing.TB, s string, width int) {
	t.Helper()
	folded, err, _ := ldif.Refold(s, width)
	if err != api.OK {
		return
	}
	want, refused, _ := Load(s)
	got, err, _ := Load(folded)
	if told(unnumbered(got)) != told(unnumbered(want)) || err != refused {
		t.Fatalf("Load(Refold(%.500q, %d)) = %s, %d; want %s, %d", s, width, told(got), err, told(want), refused)
	}
	holdText(t, folded)
}

// holdApart holds that no text is both a snapshot and one of changes.
func holdApart(t testing.TB, s string) {
	t.Helper()
	_, here, hereAt := Load(s)
	_, there, thereAt := ldif.Load(s)
	if here != api.OK && there != api.OK {
		return
	}
	blocks, _ := slowBlocks(s)
	second := 0
	if len(blocks) > 0 && len(blocks[0]) > 1 {
		second = blocks[0][1].Number
	}
	changes := here == api.OK && there == api.ErrChange && thereAt == second
	snapshot := there == api.OK && here == api.ErrChangeType && hereAt == second
	if !changes && !snapshot {
		t.Fatalf("of %.500q Load tells %d, %d and ldif.Load %d, %d; the second line is %d", s, here, hereAt, there, thereAt, second)
	}
}

// holdRendered holds Render, and that Load takes what it writes back.
func holdRendered(t testing.TB, cs []api.ChangeRecord) {
	t.Helper()
	want, refused := slowRender(cs)
	got, err, at := Render(cs)
	if got != want || (fault{err, at}) != refused {
		t.Fatalf("Render(%s) = %.500q, %d, %d; want %.500q, %v", told(cs), got, err, at, want, refused)
	}
	if refused != (fault{}) {
		return
	}
	if back, err, at := Load(got); told(unnumbered(back)) != told(unnumbered(cs)) || err != api.OK || at != 0 {
		t.Fatalf("Load(%.500q) = %s, %d, %d; want %s", got, told(back), err, at, told(cs))
	}
}

// holdAsked holds Requests.
func holdAsked(t testing.TB, cs []api.ChangeRecord, first int) {
	t.Helper()
	want, refused := slowRequests(cs, first)
	got, err, at := Requests(cs, first)
	if told(got) != told(want) || (fault{err, at}) != refused {
		t.Fatalf("Requests(%s, %d) = %s, %d, %d; want %s, %v", told(cs), first, told(got), err, at, told(want), refused)
	}
}

// The parts of records.

// pairs are pairs of descriptions and values by turns.
func pairs(words ...string) []api.Pair {
	var out []api.Pair
	for i := 0; i < len(words); i += 2 {
		out = append(out, api.Pair{Desc: words[i], Value: words[i+1]})
	}
	return out
}

func change(kind int, desc string, values ...string) api.Change {
	return api.Change{Kind: kind, Desc: desc, Values: values}
}

func add(line int, name string, words ...string) api.ChangeRecord {
	return api.ChangeRecord{Line: line, Name: name, Kind: api.AddEntry, Pairs: pairs(words...)}
}

func erase(line int, name string, controls ...api.Control) api.ChangeRecord {
	return api.ChangeRecord{Line: line, Name: name, Kind: api.DeleteEntry, Controls: controls}
}

func modify(line int, name string, changes ...api.Change) api.ChangeRecord {
	return api.ChangeRecord{Line: line, Name: name, Kind: api.ModifyEntry, Changes: changes}
}

func rename(line int, name, newRDN string, deleteOld bool) api.ChangeRecord {
	return api.ChangeRecord{Line: line, Name: name, Kind: api.RenameEntry, NewRDN: newRDN, DeleteOld: deleteOld}
}

// beneath is a renaming with a new superior.
func beneath(c api.ChangeRecord, superior string) api.ChangeRecord {
	c.NewSuperior, c.HasNewSuperior = superior, true
	return c
}

// bears is a record with controls.
func bears(c api.ChangeRecord, controls ...api.Control) api.ChangeRecord {
	c.Controls = controls
	return c
}

func list(cs ...api.ChangeRecord) []api.ChangeRecord { return cs }
