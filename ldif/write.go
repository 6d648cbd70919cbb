package ldif

import (
	"strings"

	"roster/api"
	"roster/text"
)

// recordFault tells why no snapshot can hold a record.
func recordFault(record api.Record) api.Errno {
	if len(record.Pairs) == 0 {
		return api.ErrBare
	}
	k := secondLine
	for _, pair := range record.Pairs {
		if err := wordFault(pair.Desc, k); err != api.OK {
			return err
		}
		k = attributeLine
	}
	return api.OK
}

func writeRecord(out *strings.Builder, record api.Record) {
	writeLine(out, "dn", record.Name)
	for _, pair := range record.Pairs {
		writeLine(out, pair.Desc, pair.Value)
	}
}

func writeLine(out *strings.Builder, word, value string) {
	out.WriteString(word)
	out.WriteByte(':')
	switch {
	case value == "":
	case !text.Plain(value):
		out.WriteByte(':')
		value = text.Base64(value)
		fallthrough
	default:
		out.WriteByte(' ')
		out.WriteString(value)
	}
	out.WriteByte('\n')
}
