package attr

import (
	"slices"

	"roster/api"
)

// book is the table opened for one call, at the texts that the call asks for. No map can stand at package level, and to gather all names at each call would cost more than all the rest of it.
type book struct {
	labels  [count]label
	numbers map[string]int // the row that an asked text names
}

// openBook takes folded texts.
func openBook(asked ...string) book {
	b := book{numbers: make(map[string]int, len(asked))}
	for number, l := range labels() {
		b.labels[number] = l
		for _, called := range [...]string{l.name, l.other, l.oid} {
			if called != "" && slices.Contains(asked, called) {
				b.numbers[called] = number
			}
		}
	}
	return b
}

// row tells a row in memory of its own.
func (b *book) row(number int) api.AttrType {
	l := b.labels[number]
	t := api.AttrType{Name: l.name, OID: l.oid, Syntax: syntaxes[number], Usage: usages[number]}
	if l.other != "" {
		t.Aliases = []string{l.other}
	}
	if super := supers[number]; super != 0 {
		t.Super = b.labels[super].name
	}
	return t
}

// canonical is the canonical type of an asked text.
func (b *book) canonical(asked string) string {
	if number, known := b.numbers[asked]; known {
		return b.labels[number].name
	}
	return asked
}

// lineage is the canonical type of an asked text and its super types, the nearest first.
func (b *book) lineage(asked string) []string {
	line := []string{b.canonical(asked)}
	// Of a text that names no type the number is 0, which stands beneath nothing.
	for number := supers[b.numbers[asked]]; number != 0; number = supers[number] {
		line = append(line, b.labels[number].name)
	}
	return line
}
