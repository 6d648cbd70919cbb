package patch

import (
	"maps"
	"slices"

	"roster/api"
	"roster/dit"
	"roster/dn"
)

// draft is a tree's entries while changes are carried out on them. They are copies: the tree stays as it is, and of a change that gives up in its midst nothing is left when the draft is let go.
type draft struct {
	root *node
}

// node is an entry, and the entries right beneath it by the last parts of their keys.
type node struct {
	entry api.Entry
	kids  map[string]*node
}

func newDraft(t *dit.Tree) *draft {
	nodes := make([]*node, t.Len())
	for n := range nodes {
		nodes[n] = &node{entry: t.Entry(n)}
		// A parent's number is below those of its children.
		if above := t.Parent(n); above >= 0 {
			nodes[above].hang(nodes[n])
		}
	}
	return &draft{nodes[0]}
}

// hang lays a node beneath this one.
func (n *node) hang(kid *node) {
	if n.kids == nil {
		n.kids = map[string]*node{}
	}
	n.kids[lastPart(kid.entry.Key)] = kid
}

// unhang takes the node with this key, which isn't the root's, away from the one above it.
func (d *draft) unhang(key []string) {
	delete(d.above(key).kids, lastPart(key))
}

func lastPart(key []string) string { return key[len(key)-1] }

// find is the node with this key; nil: there is none.
func (d *draft) find(key []string) *node {
	top := d.root.entry.Key
	if !dn.Within(top, key) {
		return nil
	}
	found := d.root
	for _, part := range key[len(top):] {
		next, there := found.kids[part]
		if !there {
			return nil
		}
		found = next
	}
	return found
}

// needed is the node with this key; a change that has none is refused.
func (d *draft) needed(key []string, err api.Errno) *node {
	found := d.find(key)
	if found == nil {
		refuse(err)
	}
	return found
}

// above is the node right above a key's; a change of an entry that would have none is refused. The empty key has nothing above it, and is asked for only where no entry has it: so none is found.
func (d *draft) above(key []string) *node {
	parent, _ := dn.Parent(key)
	return d.needed(parent, api.ErrNoParent)
}

// tree is the new tree.
func (d *draft) tree() *dit.Tree {
	made, _, _ := dit.Build(d.root.tell(nil))
	return made
}

// tell lays the entries of a node, and of all beneath it, behind others, in canonical order.
func (n *node) tell(entries []api.Entry) []api.Entry {
	entries = append(entries, n.entry)
	for _, part := range slices.Sorted(maps.Keys(n.kids)) {
		entries = n.kids[part].tell(entries)
	}
	return entries
}
