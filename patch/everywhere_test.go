package patch

import (
	"cmp"
	"math"
	"reflect"
	"slices"
	"strconv"
	"strings"
	"sync"
	"testing"

	"roster/api"
	"roster/dit"
)

// rooms are all lists in a value, as long as their room.
func rooms(x reflect.Value) []reflect.Value {
	var out []reflect.Value
	switch x.Kind() {
	case reflect.Struct:
		for i := range x.NumField() {
			out = append(out, rooms(x.Field(i))...)
		}
	case reflect.Slice:
		whole := x.Slice(0, x.Cap())
		out = append(out, whole)
		for i := range whole.Len() {
			out = append(out, rooms(whole.Index(i))...)
		}
	}
	return out
}

// spoil writes over all that the lists in a value have, spare room too, the innermost lists first.
func spoil(x any) {
	for _, room := range slices.Backward(rooms(reflect.ValueOf(x))) {
		for i := range room.Len() {
			if room.Index(i).Kind() == reflect.String {
				room.Index(i).SetString("spoilt")
			} else {
				room.Index(i).SetZero()
			}
		}
	}
}

// roomsTold is all that lists hold, spare room too.
func roomsTold(x any) string {
	var out strings.Builder
	for _, room := range rooms(reflect.ValueOf(x)) {
		out.WriteString(told(room.Interface()))
	}
	return out.String()
}

// holdOwnMemory holds that no two lists of some values have a byte in common.
func holdOwnMemory(t *testing.T, all ...any) {
	t.Helper()
	type span struct{ from, to uintptr }
	var spans []span
	for _, x := range all {
		for _, room := range rooms(reflect.ValueOf(x)) {
			if size := uintptr(room.Len()) * room.Type().Elem().Size(); size > 0 {
				spans = append(spans, span{room.Pointer(), room.Pointer() + size})
			}
		}
	}
	slices.SortFunc(spans, func(a, b span) int { return cmp.Compare(a.from, b.from) })
	for i := 1; i < len(spans); i++ {
		if spans[i].from < spans[i-1].to {
			t.Fatalf("two lists share memory, of %s", told(all))
		}
	}
}

// roomy is a copy of changes of which every list has spare room with something in it.
func roomy(cs []api.ChangeRecord) []api.ChangeRecord {
	out := append(slices.Clone(cs), added("spare", "o", "room"), deleted("more"))[:len(cs)]
	for i := range out {
		c := &out[i]
		c.Controls = append(slices.Clone(c.Controls), api.Control{OID: "9.9"}, api.Control{OID: "9.8"})[:len(c.Controls)]
		c.Pairs = append(slices.Clone(c.Pairs), pairs("spare", "pair", "more", "pairs")...)[:len(c.Pairs)]
		c.Changes = append(slices.Clone(c.Changes), to(1, "spare", "value"), to(2, "more"))[:len(c.Changes)]
		for j := range c.Changes {
			values := c.Changes[j].Values
			c.Changes[j].Values = append(slices.Clone(values), "spare", "values")[:len(values)]
		}
	}
	return out
}

// P21.6, P0.1: the changes that are handed in are not changed, spare room too; what the caller writes into them behind the call is not seen in the new tree.
func TestChangesAreNotChanged(t *testing.T) {
	m := newMaker(217)
	for range 1000 {
		entries := m.entries(5)
		tree := m.tree(entries)
		cs := roomy(m.changes(inOrder(entries), 5))
		before := roomsTold(cs)
		made, err, _ := All(tree, cs)
		if after := roomsTold(cs); after != before {
			t.Fatalf("%s became %s", before, after)
		}
		if err != api.OK {
			continue
		}
		want := wholeTold(made)
		spoil(cs)
		if got := wholeTold(made); got != want {
			t.Fatalf("with what was handed in the tree became %s; it was %s", got, want)
		}
	}
}

// P21.6, P0.1: values that a change gives, and a later one takes away or adds to, are not the caller's.
func TestValuesAreNotChanged(t *testing.T) {
	for _, first := range []api.Change{to(2, "sn", "a", "b", "c"), to(2, "mail", "a", "b", "c"), to(0, "mail", "a", "b", "c")} {
		for _, then := range []api.Change{to(1, first.Desc, "a"), to(0, first.Desc, "d"), to(2, first.Desc, "d"), to(1, first.Desc)} {
			cs := roomy([]api.ChangeRecord{changed(one, first, then), changed(one, to(2, first.Desc, "q"))})
			before := roomsTold(cs)
			if _, err, _ := All(grown(t, example()...), cs); err != api.OK {
				t.Fatalf("%s: %d", told(cs), err)
			}
			if after := roomsTold(cs); after != before {
				t.Errorf("%s became %s", before, after)
			}
			holdAll(t, grown(t, example()...), cs)
		}
	}
}

// P21.6, P0.1: keys that are made of one superior's are apart, however long that is.
func TestKeysAreApart(t *testing.T) {
	entries := []api.Entry{having("o=x", "o", "x")}
	name := "o=x"
	for range 30 {
		var cs []api.ChangeRecord
		for _, part := range []string{"1", "2", "3"} {
			cs = append(cs, called("cn="+part+",o=x", "cn=m"+part, true, name))
		}
		kids := []api.Entry{having("cn=1,o=x", "sn", "1"), having("cn=2,o=x", "sn", "2"), having("cn=3,o=x", "sn", "3"), having("cn=4,cn=3,o=x", "sn", "4"), having("cn=5,cn=3,o=x", "sn", "5")}
		holdAll(t, grown(t, append(slices.Clone(entries), kids...)...), cs)
		name = "l=a," + name
		entries = append(entries, having(name, "l", "a"))
	}
}

// P21.6, P0.1: what is written into the entries of a tree is seen in no other: neither the tree ahead nor the new one shares their lists.
func TestTreesAreApart(t *testing.T) {
	m := newMaker(218)
	for range 500 {
		entries := m.oddEntries(6)
		tree := m.tree(entries)
		before := wholeTold(tree)
		cs := m.changes(inOrder(entries), 4)
		made, err, _ := All(tree, cs)
		if err != api.OK {
			made, _, _ = All(tree, nil)
		}
		want := wholeTold(made)
		first, second := entriesOf(tree), entriesOf(made)
		holdOwnMemory(t, entries, cs, first, second)
		spoil(first)
		spoil(entries)
		if wholeTold(made) != want || wholeTold(tree) != before {
			t.Fatalf("the trees became\n%sand\n%s", wholeTold(tree), wholeTold(made))
		}
		spoil(second)
		if wholeTold(made) != want || wholeTold(tree) != before {
			t.Fatalf("the trees became\n%sand\n%s", wholeTold(tree), wholeTold(made))
		}
	}
}

// P21.6, P0.1: the changes that Diff tells are new memory.
func TestDifferencesAreNewMemory(t *testing.T) {
	m := newMaker(219)
	some := 0
	for range 500 {
		entries := m.entries(5)
		a, b := m.tree(entries), m.tree(m.altered(entries))
		before := wholeTold(a) + wholeTold(b)
		first, _ := Diff(a, b)
		second, _ := Diff(a, b)
		want := told(second)
		holdOwnMemory(t, first, second, entriesOf(a), entriesOf(b))
		for i := range first {
			rest := told(first[i+1:])
			spoil(first[i])
			if told(first[i+1:]) != rest {
				t.Fatalf("by the change of the one at %d the others became %s", i, told(first[i+1:]))
			}
		}
		spoil(first)
		third, _ := Diff(a, b)
		if told(second) != want || told(third) != want || wholeTold(a)+wholeTold(b) != before {
			t.Fatalf("by another answer's change they became %s and %s", told(second), told(third))
		}
		some += len(second)
	}
	if some < 300 {
		t.Errorf("there were %d changes", some)
	}
}

// P0.1: one call tells the same each time, whatever order a map is gone through.
func TestAnswersAreFixed(t *testing.T) {
	entries := []api.Entry{having("o=x", "o", "x"), having("ou=a,o=x", "ou", "a")}
	for i := range 12 {
		name := "cn=" + strconv.Itoa(i) + ",ou=a,o=x"
		entries = append(entries, having(name, "sn", strconv.Itoa(i), "mail", "m", "l", "q"), having("cn=z,"+name, "sn", "z"))
	}
	tree := grown(t, entries...)
	cs := []api.ChangeRecord{called("ou=a,o=x", "ou=b", true), changed("cn=3,ou=b,o=x", to(2, "sn", "c", "b", "a"), to(1, "mail"), to(0, "title", "b", "a"))}
	made, _, _ := All(tree, cs)
	want := wholeTold(made)
	diff, _ := Diff(tree, made)
	for range 50 {
		again, _, _ := All(tree, cs)
		changes, _ := Diff(tree, again)
		if wholeTold(again) != want || told(changes) != told(diff) || !Same(again, made) {
			t.Fatalf("another call tells\n%s%s, not\n%s%s", wholeTold(again), told(changes), want, told(diff))
		}
	}
}

// P21.6: no call panics, and each ends, at any change and any texts, of trees of all sorts.
func TestCallsAtAnything(t *testing.T) {
	m := newMaker(220)
	text := func() string {
		raw := make([]byte, m.Intn(12))
		for i := range raw {
			raw[i] = pick(m, "=", ",", "\\", "+", "#", " ", "a", "1", ";", "c", "n", string([]byte{byte(m.Intn(256))}))[0]
		}
		return pick(m, string(raw), "cn="+string(raw), "cn="+string(raw)+",o=x")
	}
	for range 3000 {
		entries := m.oddEntries(5)
		for i := range entries {
			if m.rarely(4) {
				entries[i].Name = text()
			}
			for j := range entries[i].Attrs {
				if m.rarely(8) {
					entries[i].Attrs[j].Canon = pick(m, text(), "cn")
				}
				if m.rarely(8) {
					entries[i].Attrs[j].Desc = pick(m, text(), "Control")
				}
			}
		}
		c := m.change(entries)
		c.Name = pick(m, c.Name, c.Name, c.Name, text())
		c.NewRDN = pick(m, c.NewRDN, c.NewRDN, "cn="+text())
		c.NewSuperior = pick(m, c.NewSuperior, c.NewSuperior, text())
		c.Kind = pick(m, c.Kind, c.Kind, c.Kind, api.ChangeKind(m.Uint64()))
		for i := range c.Changes {
			c.Changes[i].Kind = pick(m, c.Changes[i].Kind, c.Changes[i].Kind, c.Changes[i].Kind, int(m.Uint64()))
			c.Changes[i].Desc = pick(m, c.Changes[i].Desc, c.Changes[i].Desc, text())
		}
		a, b := m.tree(entries), m.tree(m.altered(entries))
		holdAll(t, a, []api.ChangeRecord{c})
		if m.rarely(4) {
			holdTrees(t, a, b)
		}
		holdText(t, text(), text())
		holdText(t, snapshot, v+"dn: "+text()+"\nchangetype: "+pick(m, "delete", "modify", "add\nsn: a", "modrdn\nnewrdn: "+text()+"\ndeleteoldrdn: 1")+"\n")
	}
	for _, kind := range []int{math.MinInt, math.MaxInt} {
		holdRefused(t, example(), api.ChangeRecord{Kind: api.ChangeKind(kind), Name: one}, api.ErrBadChange)
		holdRefused(t, example(), changed(one, to(kind, "sn", "a")), api.ErrBadChange)
	}
}

// P21.6: nil and empty lists are the same.
func TestEmptyLists(t *testing.T) {
	c := api.ChangeRecord{Kind: api.ModifyEntry, Name: one, Controls: []api.Control{}, Pairs: []api.Pair{}, Changes: []api.Change{}}
	holdAttrs(t, example(), c, one, "cn[1] sn[Lee]")
	c.Changes = []api.Change{{Kind: 1, Desc: "sn", Values: []string{}}, {Kind: 2, Desc: "mail", Values: []string{}}}
	holdAttrs(t, example(), c, one, "cn[1]")
	c.Changes = []api.Change{{Kind: 0, Desc: "sn", Values: []string{}}}
	holdRefused(t, example(), c, api.ErrBadChange)
	c = api.ChangeRecord{Kind: api.AddEntry, Name: "cn=2,o=x", Pairs: []api.Pair{}}
	holdRefused(t, example(), c, api.ErrBadChange)
	empty := []api.Entry{{Key: []string{}, Attrs: []api.Attr{{Canon: "sn", Values: []string{}}, {Desc: "o", Canon: "o", Values: []string{"x"}}}}}
	holdSame(t, empty, []api.Entry{odd("", "", at("o", "o", "x"))}, true)
}

// many is a tree of a thousand entries and some more, and an entry with thousands of values.
func many(t *testing.T) *dit.Tree {
	entries := []api.Entry{having("o=x", "o", "x"), having("ou=a,o=x", "ou", "a")}
	var words []string
	for i := range 5000 {
		words = append(words, "description", strconv.Itoa(i))
	}
	entries = append(entries, having("ou=b,o=x", words...))
	for i := range 1000 {
		entries = append(entries, having("cn="+strconv.Itoa(i)+",ou=a,o=x", "sn", "a"))
	}
	return grown(t, entries...)
}

// P21.6: many entries, values and changes: the work grows no faster than they do.
func TestMany(t *testing.T) {
	tree := many(t)
	var cs []api.ChangeRecord
	for i := range 1000 {
		name := strconv.Itoa(i)
		cs = append(cs, added("cn="+name+",ou=b,o=x", "sn", "a"), called("cn="+name+",ou=b,o=x", "cn=m"+name, true, "ou=a,o=x"), changed("cn="+name+",ou=a,o=x", to(0, "mail", "m")), deleted("cn="+name+",ou=a,o=x"))
	}
	var values, gone []string
	for i := range 5000 {
		values = append(values, "v"+strconv.Itoa(i))
		gone = append(gone, strconv.Itoa(i))
	}
	cs = append(cs, changed("ou=b,o=x", to(0, "description", values...), to(1, "description", gone...)), called("ou=a,o=x", "ou=c", true))
	made, err, place := All(tree, cs)
	if err != api.OK || place != 0 || made.Len() != 1003 || made.Find([]string{"o=x", "ou=c", "cn=m999"}) < 0 {
		t.Fatalf("All of %d changes: %d, %d", len(cs), err, place)
	}
	if has := made.Entry(made.Find([]string{"o=x", "ou=b"})).Attrs[0].Values; !slices.Equal(has, values) {
		t.Errorf("%d values are left", len(has))
	}
	if _, err, place := All(tree, append(cs, deleted("o=x"))); err != api.ErrRoot || place != len(cs) {
		t.Errorf("a fault at the end is told as %d, %d", err, place)
	}
	diff, err := Diff(tree, made)
	if err != api.OK || len(diff) != 1001+1001+1 || Same(tree, made) {
		t.Errorf("Diff tells %d changes, %d", len(diff), err)
	}
	if again, err, _ := All(tree, diff); err != api.OK || !Same(again, made) {
		t.Errorf("All of Diff: %d", err)
	}
}

// P21.6: a chain of entries as deep as no name is: all but what would name one of them can be done.
func TestDeep(t *testing.T) {
	entries := []api.Entry{odd("", "", at("o", "o", "x"))}
	for range 400 {
		above := entries[len(entries)-1]
		entries = append(entries, api.Entry{Name: above.Name, Key: append(slices.Clone(above.Key), "cn=a"), Attrs: above.Attrs})
	}
	tree := grown(t, entries...)
	holdAll(t, tree, nil)
	holdAll(t, tree, []api.ChangeRecord{changed("", to(0, "sn", "a"))})
	holdAll(t, tree, []api.ChangeRecord{called("cn=a", "cn=b", true)})
	holdRefused(t, entries, called("cn=a,cn=a", "cn=b", true), api.ErrBadChange)
	holdRefused(t, entries, deleted("cn=a,cn=a"), api.ErrNotLeaf)
	holdTrees(t, tree, tree)
}

// P0.1: calls at the same time, on one tree too, do not meet.
func TestCallsAreAlone(t *testing.T) {
	tree, other := grown(t, deepTree()...), grown(t, deepTree()[:3]...)
	before := wholeTold(tree) + wholeTold(other)
	c := called(`ou=a\,b,o=x`, "ou=c", true)
	made, _ := Apply(tree, c)
	want := wholeTold(made)
	diff, _ := Diff(tree, other)
	wanted := told(diff)
	var group sync.WaitGroup
	for range 8 {
		group.Go(func() {
			for range 50 {
				if got, err := Apply(tree, c); err != api.OK || wholeTold(got) != want {
					t.Errorf("Apply makes %d, %s", err, shown(got))
				}
				if got, _ := Diff(tree, other); told(got) != wanted {
					t.Errorf("Diff tells %s", told(got))
				}
				if Same(tree, other) || !Same(tree, tree) {
					t.Errorf("Same tells otherwise")
				}
			}
		})
	}
	group.Wait()
	if after := wholeTold(tree) + wholeTold(other); after != before {
		t.Errorf("the trees became %s", after)
	}
}
