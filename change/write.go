package change

import (
	"strings"

	"roster/api"
	"roster/text"
)

// writtenAs is the row of a record's kind; false: no text means the record.
func writtenAs(c api.ChangeRecord) (kindRow, bool) {
	row, known := rowOf(c.Kind)
	if !known || !row.written(c) {
		return kindRow{}, false
	}
	for _, control := range c.Controls {
		if !isIdentifier(control.OID) || control.Value != "" && !control.HasValue {
			return kindRow{}, false
		}
	}
	return row, true
}

// hasNaming tells whether a record has anything that only a renaming has.
func hasNaming(c api.ChangeRecord) bool {
	return c.NewRDN != "" || c.DeleteOld || c.NewSuperior != "" || c.HasNewSuperior
}

func writtenAdd(c api.ChangeRecord) bool {
	for _, pair := range c.Pairs {
		if _, ok := canonicalOf(pair.Desc); !ok {
			return false
		}
	}
	return len(c.Pairs) > 0 && len(c.Changes) == 0 && !hasNaming(c)
}

func writtenDelete(c api.ChangeRecord) bool {
	return len(c.Pairs) == 0 && len(c.Changes) == 0 && !hasNaming(c)
}

func writtenModify(c api.ChangeRecord) bool {
	for _, change := range c.Changes {
		_, ok := canonicalOf(change.Desc)
		if !ok || change.Kind < 0 || change.Kind >= len(modificationWords) {
			return false
		}
	}
	return len(c.Pairs) == 0 && !hasNaming(c)
}

func writtenRename(c api.ChangeRecord) bool {
	return len(c.Pairs) == 0 && len(c.Changes) == 0 && (c.NewSuperior == "" || c.HasNewSuperior)
}

// writeHead writes what the records of all kinds have.
func writeHead(out *strings.Builder, c api.ChangeRecord) {
	out.WriteByte('\n')
	writeLine(out, "dn", c.Name)
	for _, control := range c.Controls {
		writeControl(out, control)
	}
	writeLine(out, "changetype", wordOf(c.Kind))
}

func writeControl(out *strings.Builder, control api.Control) {
	out.WriteString("control: " + control.OID)
	if control.Critical {
		out.WriteString(" true")
	}
	if control.HasValue {
		writeValue(out, control.Value)
	}
	out.WriteByte('\n')
}

func writeAdd(out *strings.Builder, c api.ChangeRecord) {
	for _, pair := range c.Pairs {
		writeLine(out, pair.Desc, pair.Value)
	}
}

func writeDelete(*strings.Builder, api.ChangeRecord) {}

func writeModify(out *strings.Builder, c api.ChangeRecord) {
	for _, change := range c.Changes {
		writeLine(out, modificationWords[change.Kind], change.Desc)
		for _, value := range change.Values {
			writeLine(out, change.Desc, value)
		}
		out.WriteString("-\n")
	}
}

func writeRename(out *strings.Builder, c api.ChangeRecord) {
	writeLine(out, "newrdn", c.NewRDN)
	if c.DeleteOld {
		writeLine(out, "deleteoldrdn", "1")
	} else {
		writeLine(out, "deleteoldrdn", "0")
	}
	if c.HasNewSuperior {
		writeLine(out, "newsuperior", c.NewSuperior)
	}
}

func writeLine(out *strings.Builder, word, value string) {
	out.WriteString(word)
	writeValue(out, value)
	out.WriteByte('\n')
}

// writeValue writes a ":" and a value's text.
func writeValue(out *strings.Builder, value string) {
	out.WriteByte(':')
	switch {
	case value == "":
	case text.Plain(value):
		out.WriteString(" " + value)
	default:
		out.WriteString(": " + text.Base64(value))
	}
}
