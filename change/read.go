package change

import (
	"iter"
	"strings"

	"roster/api"
	"roster/text"
)

// reader reads the lines of one record.
type reader struct {
	left   []api.Line // what is still to be read
	line   api.Line   // what was read last
	record api.ChangeRecord
}

// read gives the records of s one by one; and behind them, without a record, the fault at which the reading came to a halt, if there is one.
func read(s string) iter.Seq2[api.ChangeRecord, api.Fault] {
	return func(yield func(api.ChangeRecord, api.Fault) bool) {
		records, fault := recordsOf(s)
		if fault.Err != api.OK {
			yield(api.ChangeRecord{}, fault)
			return
		}
		for _, lines := range records {
			record, fault := readRecord(lines)
			if !yield(record, fault) || fault.Err != api.OK {
				return
			}
		}
	}
}

func readRecord(lines []api.Line) (api.ChangeRecord, api.Fault) {
	r := reader{left: lines, record: api.ChangeRecord{Line: lines[0].Number}}
	steps := [...]func(*reader) api.Fault{(*reader).name, (*reader).controls, (*reader).change}
	for _, step := range steps {
		if fault := step(&r); fault.Err != api.OK {
			return api.ChangeRecord{}, fault
		}
	}
	return r.record, api.Fault{}
}

// next goes on to the next line, if there is one.
func (r *reader) next() bool {
	if len(r.left) == 0 {
		return false
	}
	r.line, r.left = r.left[0], r.left[1:]
	return true
}

// fault is one of the line that was read last.
func (r *reader) fault(err api.Errno) api.Fault {
	return api.Fault{Err: err, Line: r.line.Number}
}

// optional goes on to the next line, if that has this word, and gives what stands behind its ":".
func (r *reader) optional(word string) (string, bool) {
	if len(r.left) == 0 {
		return "", false
	}
	rest, ok := behind(r.left[0].Text, word)
	if ok {
		r.next()
	}
	return rest, ok
}

// needed does so of a line that must be there. Where none is left, the record's first line is at fault.
func (r *reader) needed(word string, err api.Errno) (string, api.Fault) {
	if !r.next() {
		return "", api.Fault{Err: err, Line: r.record.Line}
	}
	rest, ok := behind(r.line.Text, word)
	if !ok {
		return "", r.fault(err)
	}
	return rest, api.Fault{}
}

// neededValue gives the value of a line that must be there.
func (r *reader) neededValue(word string, noLine, noValue api.Errno) (string, api.Fault) {
	rest, fault := r.needed(word, noLine)
	if fault.Err != api.OK {
		return "", fault
	}
	value, err := readValue(rest)
	if err != api.OK {
		return "", r.fault(noValue)
	}
	return value, api.Fault{}
}

func (r *reader) name() (fault api.Fault) {
	r.record.Name, fault = r.neededValue("dn", api.ErrBegin, api.ErrNameSpec)
	return fault
}

func (r *reader) controls() api.Fault {
	for rest, ok := r.optional("control"); ok; rest, ok = r.optional("control") {
		control, err := readControl(rest)
		if err != api.OK {
			return r.fault(err)
		}
		r.record.Controls = append(r.record.Controls, control)
	}
	return api.Fault{}
}

// readControl reads what stands behind the first ":" of a control's line.
func readControl(s string) (api.Control, api.Errno) {
	ahead, written, hasValue := strings.Cut(s, ":")
	oid, rest, hasWord := strings.Cut(skipFill(ahead), " ")
	if !isIdentifier(oid) {
		return api.Control{}, api.ErrControlLine
	}
	control := api.Control{OID: oid, HasValue: hasValue}
	if hasWord {
		switch text.Fold(skipFill(rest)) {
		case "true":
			control.Critical = true
		case "false":
		default:
			return api.Control{}, api.ErrControlLine
		}
	}
	// Where no value is written, the empty text gives the empty value that is asked for.
	value, err := readValue(written)
	control.Value = value
	return control, err
}

// change reads the changetype line and, as its word asks for, all that follows.
func (r *reader) change() api.Fault {
	rest, fault := r.needed("changetype", api.ErrChangeType)
	if fault.Err != api.OK {
		return fault
	}
	kind, known := kindOf(text.Fold(skipFill(rest)))
	if !known {
		return r.fault(api.ErrChangeType)
	}
	r.record.Kind = kind
	row, _ := rowOf(kind)
	return row.read(r)
}

// pairs reads what follows the word add.
func (r *reader) pairs() api.Fault {
	if len(r.left) == 0 {
		return api.Fault{Err: api.ErrBare, Line: r.record.Line}
	}
	for r.next() {
		a, ok := attributeOf(r.line.Text)
		if !ok {
			return r.fault(api.ErrLine)
		}
		value, err := readValue(a.value)
		if err != api.OK {
			return r.fault(err)
		}
		r.record.Pairs = append(r.record.Pairs, api.Pair{Desc: a.desc, Value: value})
	}
	return api.Fault{}
}

// nothing reads what follows the word delete, and what stands behind a renaming.
func (r *reader) nothing() api.Fault {
	if r.next() {
		return r.fault(api.ErrChangeLine)
	}
	return api.Fault{}
}

// modifications reads what follows the word modify.
func (r *reader) modifications() api.Fault {
lines:
	for r.next() {
		notOne := r.fault(api.ErrModify)
		// A line without ":" has no description either.
		word, rest, _ := strings.Cut(r.line.Text, ":")
		row, known := modificationOf(text.Fold(word))
		desc := skipFill(rest)
		canonical, ok := canonicalOf(desc)
		if !known || !ok {
			return notOne
		}
		change := api.Change{Kind: row.kind, Desc: desc}
		for r.next() {
			if r.line.Text == "-" {
				r.record.Changes = append(r.record.Changes, change)
				continue lines
			}
			value, err := row.read(r.line.Text, canonical)
			if err != api.OK {
				return r.fault(err)
			}
			change.Values = append(change.Values, value)
		}
		return notOne
	}
	return api.Fault{}
}

// readValueOf reads a value line of a modification with this canonical description.
func readValueOf(line, canonical string) (string, api.Errno) {
	a, ok := attributeOf(line)
	switch {
	case !ok:
		return "", api.ErrLine
	case a.canonical != canonical:
		return "", api.ErrModify
	}
	return readValue(a.value)
}

// renaming reads what follows the words modrdn and moddn.
func (r *reader) renaming() (fault api.Fault) {
	r.record.NewRDN, fault = r.neededValue("newrdn", api.ErrNewRDN, api.ErrNewRDN)
	if fault.Err != api.OK {
		return fault
	}
	rest, fault := r.needed("deleteoldrdn", api.ErrDeleteOld)
	if fault.Err != api.OK {
		return fault
	}
	switch skipFill(rest) {
	case "1":
		r.record.DeleteOld = true
	case "0":
	default:
		return r.fault(api.ErrDeleteOld)
	}
	if rest, ok := r.optional("newsuperior"); ok {
		superior, err := readValue(rest)
		if err != api.OK {
			return r.fault(api.ErrNameSpec)
		}
		r.record.NewSuperior, r.record.HasNewSuperior = superior, true
	}
	return r.nothing()
}
