package patch

import (
	"testing"

	"roster/api"
)

// P21.2: the chapter's example 8, and others of its kind.
func TestAll(t *testing.T) {
	for _, c := range []struct {
		cs   []api.ChangeRecord
		err  api.Errno
		at   int
		want string
	}{
		{[]api.ChangeRecord{added("cn=2,ou=b,o=x", "cn", "2"), deleted("ou=b,o=x")}, api.ErrNotLeaf, 1, "none"},
		{nil, api.OK, 0, "o=x / ou=a,o=x / " + one + " / ou=b,o=x"},
		{[]api.ChangeRecord{deleted(one), deleted("ou=a,o=x"), deleted("ou=b,o=x")}, api.OK, 0, "o=x"},
		{[]api.ChangeRecord{deleted("ou=a,o=x"), deleted(one)}, api.ErrNotLeaf, 0, "none"},
		{[]api.ChangeRecord{deleted(one), deleted(one)}, api.ErrNoEntry, 1, "none"},
		{[]api.ChangeRecord{deleted(one), added("CN=1,ou=a,o=x", "sn", "a"), deleted("o=x"), deleted("cn")}, api.ErrRoot, 2, "none"},
		{[]api.ChangeRecord{changed(one, to(0, "sn", "a")), changed(one, to(0, "sn", "A"))}, api.ErrHasValue, 1, "none"},
		{[]api.ChangeRecord{changed(one, to(1, "sn")), changed(one, to(0, "sn", "Lee"), to(0, "mail", "m"))}, api.OK, 0, "o=x / ou=a,o=x / " + one + " / ou=b,o=x"},
		{[]api.ChangeRecord{called("ou=a,o=x", "ou=c", true), changed(one, to(1, "sn"))}, api.ErrNoEntry, 1, "none"},
		{[]api.ChangeRecord{called("ou=a,o=x", "ou=c", true), changed("cn=1,ou=c,o=x", to(1, "sn")), added("ou=a,o=x", "sn", "a"), called("cn=1,ou=c,o=x", "cn=2", true, "ou=a,o=x"), deleted("ou=c,o=x")}, api.OK, 0, "o=x / ou=a,o=x / cn=2,ou=a,o=x / ou=b,o=x"},
		{[]api.ChangeRecord{called("ou=a,o=x", "ou=a", true, "ou=b,o=x"), called("ou=b,o=x", "ou=b", true, "ou=a,ou=b,o=x")}, api.ErrBeneath, 1, "none"},
		{[]api.ChangeRecord{called("ou=a,o=x", "ou=t", true), called("ou=b,o=x", "ou=a", true), called("ou=t,o=x", "ou=b", true)}, api.OK, 0, "o=x / ou=a,o=x / ou=b,o=x / cn=1,ou=b,o=x"},
		{[]api.ChangeRecord{{Kind: 9}}, api.ErrBadChange, 0, "none"},
		{[]api.ChangeRecord{changed(one), changed("o=x"), {Kind: 9, Name: "o=x"}, changed("cn")}, api.ErrBadChange, 2, "none"},
	} {
		tree := grown(t, example()...)
		if made, err, place := All(tree, c.cs); namesOf(made) != c.want || err != c.err || place != c.at {
			t.Errorf("%s: %s, %d, %d; want %s, %d, %d", told(c.cs), namesOf(made), err, place, c.want, c.err, c.at)
		}
		holdAll(t, tree, c.cs)
		// Without a change that is refused at the end, all the others are done.
		if c.err != api.OK {
			holdAll(t, tree, c.cs[:c.at])
		}
	}
}

// P21.2: without a change, the entries of a tree in canonical order: their places are their numbers.
func TestAllOfNothing(t *testing.T) {
	m := newMaker(211)
	for round := range 300 {
		entries := m.entries(8)
		if round%2 == 0 {
			entries = m.oddEntries(8)
		}
		tree := m.tree(entries)
		holdAll(t, tree, nil)
		holdAll(t, tree, []api.ChangeRecord{})
		made, _, _ := All(tree, nil)
		for n := range made.Len() {
			if made.Place(n) != n || told(made.Entry(n)) != told(tree.Entry(n)) {
				t.Fatalf("the entry %d became %s, at %d", n, told(made.Entry(n)), made.Place(n))
			}
		}
	}
}

// P21.1, P21.2: by chance: sound trees, and all kinds of changes, one by one and many.
func TestAllByChance(t *testing.T) {
	m := newMaker(212)
	seen := map[api.Errno]int{}
	kinds := map[api.ChangeKind]int{}
	for range 4000 {
		entries := m.entries(7)
		tree := m.tree(entries)
		c := m.change(entries)
		holdAll(t, tree, []api.ChangeRecord{c})
		_, err := Apply(tree, c)
		seen[err]++
		if err == api.OK {
			kinds[c.Kind]++
		}
		if m.rarely(3) {
			holdAll(t, tree, m.changes(inOrder(entries), 6))
		}
	}
	for err := api.ErrExists; err <= api.ErrBadChange; err++ {
		if seen[err] < 5 {
			t.Errorf("the error %d was told %d times", err, seen[err])
		}
	}
	for kind := api.AddEntry; kind <= api.RenameEntry; kind++ {
		if kinds[kind] < 200 {
			t.Errorf("%d changes of the kind %d were done", kinds[kind], kind)
		}
	}
}

// P21.1, P21.2, P21.6: by chance: trees of entries that no Make made.
func TestAllOddByChance(t *testing.T) {
	m := newMaker(213)
	for range 4000 {
		entries := m.oddEntries(6)
		tree := m.tree(entries)
		holdAll(t, tree, []api.ChangeRecord{m.change(entries)})
		if m.rarely(3) {
			holdAll(t, tree, m.changes(inOrder(entries), 6))
		}
	}
}

// P21.1: of sound trees a change makes a sound one.
func TestSoundStaysSound(t *testing.T) {
	m := newMaker(214)
	for range 3000 {
		entries := m.entries(7)
		made, err, _ := All(m.tree(entries), m.changes(inOrder(entries), 5))
		if err != api.OK {
			continue
		}
		for _, e := range entriesOf(made) {
			if !slowSound(e) {
				t.Fatalf("%s is not sound", told(e))
			}
		}
	}
}
