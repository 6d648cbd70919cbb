package change

import (
	"strings"

	"roster/api"
)

// typeWord is a word of a changetype line, and the kind of changes that it says.
type typeWord struct {
	word string
	kind api.ChangeKind
}

// typeWords are all of them; of two that say the same the first is written.
var typeWords = [...]typeWord{
	{"add", api.AddEntry},
	{"delete", api.DeleteEntry},
	{"modify", api.ModifyEntry},
	{"modrdn", api.RenameEntry},
	{"moddn", api.RenameEntry},
}

// modificationWords begin the first line of a modification, by the numbers of its kinds.
var modificationWords = [...]string{"add", "delete", "replace"}

// kindRow is what a kind of changes has of its own.
type kindRow struct {
	read    func(*reader) api.Fault                  // the lines behind the changetype line
	written func(api.ChangeRecord) bool              // whether lines can say what the record has beside its name and controls
	write   func(*strings.Builder, api.ChangeRecord) // those lines
	request func(api.ChangeRecord) api.Request       // without what the requests of all kinds have
}

// rowOf finds the row of a kind; false: there is no such kind.
func rowOf(kind api.ChangeKind) (kindRow, bool) {
	rows := [...]kindRow{
		api.AddEntry:    {(*reader).pairs, writtenAdd, writeAdd, addRequest},
		api.DeleteEntry: {(*reader).nothing, writtenDelete, writeDelete, deleteRequest},
		api.ModifyEntry: {(*reader).modifications, writtenModify, writeModify, modifyRequest},
		api.RenameEntry: {(*reader).renaming, writtenRename, writeRename, renameRequest},
	}
	if kind < 0 || int(kind) >= len(rows) {
		return kindRow{}, false
	}
	return rows[kind], true
}

// kindOf finds the kind that a word of a changetype line says.
func kindOf(word string) (api.ChangeKind, bool) {
	for _, known := range typeWords {
		if known.word == word {
			return known.kind, true
		}
	}
	return 0, false
}

// wordOf is the word that a changetype line of this kind is written with.
func wordOf(kind api.ChangeKind) string {
	for _, known := range typeWords {
		if known.kind == kind {
			return known.word
		}
	}
	return ""
}

// modification is what a modification's word says, and how each line that follows is read.
type modification struct {
	kind int
	read func(line, canonical string) (string, api.Errno)
}

// modificationOf finds the modification of a word.
func modificationOf(word string) (modification, bool) {
	for kind, known := range modificationWords {
		if known == word {
			return modification{kind, readValueOf}, true
		}
	}
	return modification{}, false
}
