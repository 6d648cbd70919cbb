package patch

import (
	"slices"

	"roster/api"
	"roster/attr"
	"roster/dn"
	"roster/entry"
)

func (d *draft) add(c api.ChangeRecord) {
	key := keyOf(c.Name)
	if d.find(key) != nil {
		refuse(api.ErrExists)
	}
	above := d.above(key)
	made, _ := entry.Make(api.Record{Line: c.Line, Name: c.Name, Pairs: c.Pairs})
	made.Attrs = putRight(made.Attrs)
	above.hang(&node{entry: made})
}

func (d *draft) remove(c api.ChangeRecord) {
	key := keyOf(c.Name)
	gone := d.needed(key, api.ErrNoEntry)
	if gone == d.root {
		refuse(api.ErrRoot)
	}
	if len(gone.kids) > 0 {
		refuse(api.ErrNotLeaf)
	}
	d.unhang(key)
}

func (d *draft) modify(c api.ChangeRecord) {
	e := &d.needed(keyOf(c.Name), api.ErrNoEntry).entry
	for _, change := range c.Changes {
		e.Attrs = modified(e.Attrs, change)
	}
	if !hasOwn(e.Attrs, ownPairs(e.Name)) || !hasValue(e.Attrs) {
		refuse(api.ErrOwnValue)
	}
	e.Attrs = putRight(e.Attrs)
}

// The kinds of a modification.
const (
	adds = iota
	deletes
	replaces
)

// modified is what a modification makes of attributes.
func modified(attrs []api.Attr, change api.Change) []api.Attr {
	canon, _, _ := attr.Canonical(change.Desc)
	switch {
	case change.Kind == adds:
		return withValues(attrs, change.Desc, canon, change.Values)
	case change.Kind == replaces:
		return replaced(attrs, change.Desc, canon, change.Values)
	case len(change.Values) > 0:
		return withoutValues(attrs, canon, change.Values)
	}
	if placeOf(attrs, canon) < 0 {
		refuse(api.ErrNoValue)
	}
	return without(attrs, canon)
}

func (d *draft) rename(c api.ChangeRecord) {
	key := keyOf(c.Name)
	moved := d.needed(key, api.ErrNoEntry)
	if moved == d.root {
		refuse(api.ErrRoot)
	}
	above, rest := d.superior(c, key, moved.entry.Name)
	newKey := append(slices.Clone(above.entry.Key), lastPart(keyOf(c.NewRDN)))
	if there := d.find(newKey); there != nil && there != moved {
		refuse(api.ErrExists)
	}
	old := ownPairs(moved.entry.Name)
	d.unhang(key)
	moved.call(joinName(c.NewRDN, rest), newKey)
	above.hang(moved)
	moved.entry.Attrs = renamed(moved.entry.Attrs, old, ownPairs(c.NewRDN), c.DeleteOld)
}

// superior is the node beneath which the entry with this key and name shall stand, and what stands in its new name behind its own part.
func (d *draft) superior(c api.ChangeRecord, key []string, name string) (*node, string) {
	if !c.HasNewSuperior {
		_, rest := cutName(name)
		return d.above(key), rest
	}
	superior := keyOf(c.NewSuperior)
	above := d.needed(superior, api.ErrNoParent)
	if dn.Within(key, superior) {
		refuse(api.ErrBeneath)
	}
	return above, above.entry.Name
}

// call gives a node a new name and key, and those beneath it the names and keys that follow from these. A name that hasn't its key is refused.
func (n *node) call(name string, key []string) {
	named, err := dn.KeyOf(name)
	if err != nil || dn.Compare(named, key) != 0 {
		refuse(api.ErrBadChange)
	}
	n.entry.Name, n.entry.Key = name, key
	for part, kid := range n.kids {
		own, _ := cutName(kid.entry.Name)
		kid.call(joinName(own, name), append(slices.Clone(key), part))
	}
}

// renamed is what a new name makes of an entry's attributes.
func renamed(attrs []api.Attr, old, fresh []ownPair, deleteOld bool) []api.Attr {
	if deleteOld {
		attrs = withoutOwn(attrs, old, fresh)
	}
	attrs = withOwn(attrs, fresh)
	if !hasValue(attrs) {
		refuse(api.ErrOwnValue)
	}
	return putRight(attrs)
}
