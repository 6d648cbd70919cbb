package patch

import (
	"slices"

	"roster/api"
	"roster/dit"
	"roster/dn"
	"roster/entry"
	"roster/text"
)

// meanSame tells whether two entries mean the same.
func meanSame(x, y api.Entry) bool {
	return dn.Compare(x.Key, y.Key) == 0 && sameSets(setsOf(x.Attrs), setsOf(y.Attrs))
}

func allSound(t *dit.Tree) bool {
	for n := range t.Len() {
		if !isSound(t.Entry(n)) {
			return false
		}
	}
	return true
}

// isSound tells whether a record says just this entry, and a record of a snapshot can.
func isSound(e api.Entry) bool {
	made, err := entry.Make(entry.Back(e))
	return err == api.OK && dn.Compare(made.Key, e.Key) == 0 && slices.EqualFunc(made.Attrs, e.Attrs, sameAttr) &&
		!slices.ContainsFunc(e.Attrs, func(a api.Attr) bool { return text.Fold(a.Desc) == "dn" }) &&
		slices.ContainsFunc(e.Attrs, func(a api.Attr) bool { return !isReserved(a.Desc) })
}

func sameAttr(a, b api.Attr) bool {
	return a.Desc == b.Desc && a.Canon == b.Canon && slices.Equal(a.Values, b.Values)
}

// ownKept tells whether each entry of a that b has too keeps there what its name needs.
func ownKept(a, b *dit.Tree) bool {
	for n := range a.Len() {
		x := a.Entry(n)
		if there := b.Find(x.Key); there >= 0 && !hasOwn(b.Entry(there).Attrs, ownPairs(x.Name)) {
			return false
		}
	}
	return true
}

// deletions take away what b doesn't have, from the last number down: so children go ahead of their parents.
func deletions(a, b *dit.Tree) []api.ChangeRecord {
	var cs []api.ChangeRecord
	for n := a.Len() - 1; n >= 0; n-- {
		if x := a.Entry(n); b.Find(x.Key) < 0 {
			cs = append(cs, api.ChangeRecord{Kind: api.DeleteEntry, Name: x.Name})
		}
	}
	return cs
}

// settings add what a doesn't have, and modify what it has otherwise.
func settings(a, b *dit.Tree) []api.ChangeRecord {
	var cs []api.ChangeRecord
	for n := range b.Len() {
		y := b.Entry(n)
		there := a.Find(y.Key)
		if there < 0 {
			cs = append(cs, api.ChangeRecord{Kind: api.AddEntry, Name: y.Name, Pairs: entry.Back(y).Pairs})
			continue
		}
		x := a.Entry(there)
		if changes := modifications(x.Attrs, y.Attrs); len(changes) > 0 {
			cs = append(cs, api.ChangeRecord{Kind: api.ModifyEntry, Name: x.Name, Changes: changes})
		}
	}
	return cs
}

// modifications make the attributes of one sound entry of those of another; there are none just if both entries mean the same.
func modifications(from, to []api.Attr) []api.Change {
	var changes []api.Change
	old, fresh := setsOf(from), setsOf(to)
	for _, a := range to {
		if before, there := old[a.Canon]; !there || !before.same(fresh[a.Canon]) {
			changes = append(changes, api.Change{Kind: replaces, Desc: a.Desc, Values: a.Values})
		}
	}
	for _, a := range from {
		if _, there := fresh[a.Canon]; !there {
			changes = append(changes, api.Change{Kind: deletes, Desc: a.Desc})
		}
	}
	return changes
}
