package dit

import (
	"math/rand"
	"slices"
	"strconv"
	"strings"
	"testing"

	"roster/api"
)

// P9.1: the chapter's examples, and others of their kind.
func TestBuild(t *testing.T) {
	for _, c := range []struct {
		keys  string
		err   api.Errno
		place int
	}{
		{"o o/b o/a o/b/x", api.OK, 0},
		{"o o/a o", api.ErrDouble, 2},
		{"o o/a/b o/a", api.ErrOrphan, 1},
		{"o p", api.ErrOrphan, 1},
		{"o /", api.ErrOrphan, 1},
		{"x/y x/y/z", api.OK, 0},
		{"x/y x", api.ErrOrphan, 1},
		{"/ a a/b", api.OK, 0},
		{"o o/a o/a/b o/a!", api.OK, 0},
		{"o o/a o/a q", api.ErrDouble, 2},
		// The first at fault, of whatever kind.
		{"o q o/a o/a", api.ErrOrphan, 1},
		{"o q q", api.ErrOrphan, 1},
		{"o o/a/b o/a o/a/b", api.ErrOrphan, 1},
		{"o o o", api.ErrDouble, 1},
		{"/ / a/b", api.ErrDouble, 1},
		{"/ a/b /", api.ErrOrphan, 1},
		// A double at the root, and a double that would be an orphan but for the one ahead.
		{"x/y x/y", api.ErrDouble, 1},
		{"x/y x/y/z x/y", api.ErrDouble, 2},
		{"/ a /", api.ErrDouble, 2},
		{"/ a b a/b a/b/c /", api.ErrDouble, 5},
		// Parents that are too far up, beneath others, or above the root.
		{"o o/a/b", api.ErrOrphan, 1},
		{"o o/a o/b/a", api.ErrOrphan, 2},
		{"x/y/z x/y", api.ErrOrphan, 1},
		{"x/y/z /", api.ErrOrphan, 1},
		{"x/y x/z", api.ErrOrphan, 1},
		{"x/y y", api.ErrOrphan, 1},
		{"/ a/b a", api.ErrOrphan, 1},
		{"o", api.OK, 0},
		{"/", api.OK, 0},
		{"o/", api.OK, 0},
		{"o o/ o//", api.OK, 0},
		{"o o// o/", api.ErrOrphan, 1},
		{"o o/ o/ o//", api.ErrDouble, 2},
	} {
		if c.err != api.OK {
			holdRefused(t, written(c.keys), c.err, c.place)
		}
		holdTree(t, written(c.keys))
	}
}

// P9.1: no entries, nil and empty alike.
func TestBuildOfNothing(t *testing.T) {
	holdRefused(t, nil, api.ErrEmpty, 0)
	holdRefused(t, []api.Entry{}, api.ErrEmpty, 0)
	holdRefused(t, written("o o/a")[:0], api.ErrEmpty, 0)
}

// P9.1: the numbers of the errors are those of layer 9.
func TestErrorNumbers(t *testing.T) {
	if api.ErrDouble != 90 || api.ErrOrphan != 91 || api.ErrEmpty != 92 {
		t.Errorf("the errors are %d, %d, %d", api.ErrDouble, api.ErrOrphan, api.ErrEmpty)
	}
}

// P9.1: of an entry the key alone is looked at, nil and the empty list alike.
func TestKeyAlone(t *testing.T) {
	holdTree(t, []api.Entry{{}, {Key: []string{""}}, {Key: []string{"", ""}}})
	holdTree(t, []api.Entry{{Key: []string{}}, {Key: []string{"a"}}})
	holdRefused(t, []api.Entry{{}, {Key: []string{}}}, api.ErrDouble, 1)
	holdRefused(t, []api.Entry{{Key: []string{}}, {Key: nil}}, api.ErrDouble, 1)
	same := []api.Entry{full(1, key("o")), full(1, key("o")), full(1, key("o"))}
	same[1].Key, same[2].Key = key("o/a"), key("o/b")
	holdTree(t, same)
	other := []api.Entry{full(1, key("o")), full(2, key("o"))}
	other[1].Name, other[1].Attrs = "another", nil
	holdRefused(t, other, api.ErrDouble, 1)
	holdRefused(t, []api.Entry{{}, {Name: "cn=a,o=b", Line: 4}}, api.ErrDouble, 1)
}

// P9.1: keys whose parts have the same bytes in a row are kept apart: each odd part, and each two of them, beneath one root.
func TestKeysApart(t *testing.T) {
	keys := [][]string{{"o"}}
	for _, a := range oddParts() {
		keys = append(keys, []string{"o", a})
	}
	for _, a := range oddParts() {
		for _, b := range oddParts() {
			keys = append(keys, []string{"o", a, b})
		}
	}
	entries := entriesOf(keys...)
	tree, s := built(t, entries), slowTree(entries)
	if tree.Len() != len(keys) {
		t.Fatalf("Len() = %d, want %d", tree.Len(), len(keys))
	}
	for n, e := range s.entries {
		if got := tree.Find(e.Key); got != n || tree.Place(n) != s.places[n] {
			t.Errorf("Find(%q) = %d, want %d; its place is %d, want %d", e.Key, got, n, tree.Place(n), s.places[n])
		}
	}
}

// P9.1: so are keys with parts whose lengths are told by more than one byte.
func TestLongPartsApart(t *testing.T) {
	most := strings.Repeat("a", 255)
	holdTree(t, entriesOf(key("/"), []string{""}, []string{"", most}, []string{most}, []string{most, ""}, []string{"\xff" + most}, []string{most + "\xff"}))
	wide := strings.Repeat("a", 1<<16-1)
	holdTree(t, entriesOf(key("/"), []string{""}, []string{"", wide}, []string{wide}, []string{wide, ""}, []string{"\xff\xff" + wide}, []string{wide + "\xff\xff"}))
}

// cutAt cuts a text of four bytes behind those whose bits are set.
func cutAt(text string, bits int) []string {
	var parts []string
	begin := 0
	for i := 1; i <= 4; i++ {
		if i == 4 || bits&(1<<(i-1)) != 0 {
			parts = append(parts, text[begin:i])
			begin = i
		}
	}
	return parts
}

// P9.1, P9.3: one text cut in all ways is as many keys.
func TestCuts(t *testing.T) {
	for _, text := range []string{"abcd", "aaaa", "1:1:", "\x00\x00\x00\x00", "1111", "////", ",,,,", "0:0:"} {
		keys := [][]string{nil}
		for bits := range 1 << 3 {
			parts := cutAt(text, bits)
			for i := 1; i <= len(parts); i++ {
				if !hasKey(entriesOf(keys...), parts[:i]) {
					keys = append(keys, parts[:i])
				}
			}
		}
		holdTree(t, entriesOf(keys...))
		holdKeys(t, entriesOf(keys...))
	}
}

// everyList goes through all lists of these keys, up to a length.
func everyList(keys [][]string, length int, visit func([][]string)) {
	var grow func(list [][]string)
	grow = func(list [][]string) {
		visit(list)
		if len(list) == length {
			return
		}
		for _, k := range keys {
			grow(append(slices.Clone(list), k))
		}
	}
	grow(nil)
}

// P9.1 to P9.6: all short lists of a few keys.
func TestEveryShortList(t *testing.T) {
	for _, keys := range [][][]string{
		{nil, {"a"}, {"b"}, {"a", "a"}, {"a", "b"}, {"b", "a"}, {"a", "b", "a"}},
		{{"", ""}, {""}, {"", "", ""}, {"", "", "a"}, {"", "a"}, {"\x00"}},
		{{"a"}, {"a", "b"}, {"a", "b!"}, {"a", "b", "c"}, {"a", "b!", "c"}, {"ab"}},
	} {
		everyList(keys, 4, func(list [][]string) { holdTree(t, entriesOf(list...)) })
	}
}

// P9.1 to P9.6: whatever order the entries come in, if it is a tree's list, only the places differ.
func TestEveryOrder(t *testing.T) {
	keys := [][]string{{"o"}, {"o", "a"}, {"o", "b"}, {"o", "a", "x"}, {"o", "a!"}, {"o", "a", "x", "y"}}
	accepted := 0
	var permute func(front, rest [][]string)
	permute = func(front, rest [][]string) {
		if len(rest) == 0 {
			entries := entriesOf(front...)
			holdTree(t, entries)
			if err, _ := slowFault(entries); err == api.OK {
				accepted++
			}
		}
		for i := range rest {
			permute(append(slices.Clone(front), rest[i]), slices.Concat(rest[:i], rest[i+1:]))
		}
	}
	permute(nil, keys)
	// The root leads; of the rest, a, a/x, a/x/y in their order, the two others anywhere: 5!/3!.
	if accepted != 20 {
		t.Errorf("%d orders were accepted", accepted)
	}
}

// P9.1 to P9.6: random lists, most of them a tree's, some with an entry moved, left out or doubled.
func TestRandomLists(t *testing.T) {
	r := rand.New(rand.NewSource(91))
	for range 1500 {
		entries := someEntries(r, r.Intn(14))
		holdTree(t, entries)
		at, other := r.Intn(len(entries)), r.Intn(len(entries))
		switch r.Intn(5) {
		case 0:
			entries[at], entries[other] = entries[other], entries[at]
		case 1:
			entries = slices.Delete(entries, at, at+1)
		case 2:
			entries = slices.Insert(entries, at, entries[other])
		case 3:
			entries[at].Key = someKey(r, 3)
		case 4:
			r.Shuffle(len(entries), func(i, j int) { entries[i], entries[j] = entries[j], entries[i] })
		}
		holdTree(t, entries)
	}
}

// P9.1: a fault late in a long list is told at its place, and none ahead of it.
func TestLateFaults(t *testing.T) {
	keys := [][]string{{"o"}}
	for i := range 999 {
		keys = append(keys, []string{"o", strconv.Itoa(i)})
	}
	for _, c := range []struct {
		key []string
		err api.Errno
	}{
		{[]string{"o", "998"}, api.ErrDouble},
		{[]string{"o"}, api.ErrDouble},
		{[]string{"o", "999", "0"}, api.ErrOrphan},
		{nil, api.ErrOrphan},
		{[]string{"o998"}, api.ErrOrphan},
	} {
		holdRefused(t, entriesOf(append(slices.Clone(keys), c.key, keys[0], []string{"p"})...), c.err, 1000)
	}
	built(t, entriesOf(keys...))
}
