package patch

import (
	"slices"

	"roster/api"
	"roster/attr"
	"roster/dn"
	"roster/text"
)

// kindRow is what a kind of changes has of its own.
type kindRow struct {
	stands func(api.ChangeRecord) bool    // whether what this kind asks for is there and can be meant
	carry  func(*draft, api.ChangeRecord) // carries such a change out, or refuses it
}

// rowOf finds the row of a kind; false: there is no such kind.
func rowOf(kind api.ChangeKind) (kindRow, bool) {
	rows := [...]kindRow{
		api.AddEntry:    {standsAdd, (*draft).add},
		api.DeleteEntry: {standsDelete, (*draft).remove},
		api.ModifyEntry: {standsModify, (*draft).modify},
		api.RenameEntry: {standsRename, (*draft).rename},
	}
	if kind < 0 || int(kind) >= len(rows) {
		return kindRow{}, false
	}
	return rows[kind], true
}

// carryOut carries a change out, or refuses it.
func (d *draft) carryOut(c api.ChangeRecord) {
	row, known := rowOf(c.Kind)
	if !known || slices.ContainsFunc(c.Controls, isCritical) || !isName(c.Name) || !row.stands(c) {
		refuse(api.ErrBadChange)
	}
	row.carry(d, c)
}

func isCritical(control api.Control) bool { return control.Critical }

func isName(s string) bool {
	_, err := dn.Parse(s)
	return err == nil
}

// isDesc tells whether an attribute of a snapshot may have this description.
func isDesc(desc string) bool {
	_, err, _ := attr.Canonical(desc)
	return err == api.OK && text.Fold(desc) != "dn"
}

func standsAdd(c api.ChangeRecord) bool {
	return len(c.Pairs) > 0 && !slices.ContainsFunc(c.Pairs, func(pair api.Pair) bool { return !isDesc(pair.Desc) })
}

func standsDelete(api.ChangeRecord) bool { return true }

func standsModify(c api.ChangeRecord) bool {
	return !slices.ContainsFunc(c.Changes, func(change api.Change) bool {
		return change.Kind < adds || change.Kind > replaces || !isDesc(change.Desc) || change.Kind == adds && len(change.Values) == 0
	})
}

func standsRename(c api.ChangeRecord) bool {
	name, err := dn.Parse(c.NewRDN)
	return err == nil && len(name) == 1 && (!c.HasNewSuperior || isName(c.NewSuperior))
}

// keyOf is the key of a name that parses.
func keyOf(name string) []string {
	key, _ := dn.KeyOf(name)
	return key
}
