package dit

import (
	"cmp"
	"iter"
	"math/rand"
	"slices"
	"strings"
	"testing"

	"roster/api"
)

// key is a key as the chapter writes it: parts with / between, / alone the empty one.
func key(s string) []string {
	if s == "/" {
		return nil
	}
	return strings.Split(s, "/")
}

// full is an entry with something in each of its fields.
func full(line int, key []string) api.Entry {
	name := strings.Join(key, " of ")
	return api.Entry{Line: line, Name: name, Key: key, Attrs: []api.Attr{
		{Desc: "CN", Canon: "cn", Values: []string{name, "x", ""}},
		{Desc: "Sn;Lang-En", Canon: "sn;lang-en", Values: nil},
		{Desc: "mail", Canon: "mail", Values: []string{"a@" + name}},
	}}
}

// full entries of these keys, so that no two are the same but for the key.
func entriesOf(keys ...[]string) []api.Entry {
	var out []api.Entry
	for i, k := range keys {
		out = append(out, full(10*i+3, k))
	}
	return out
}

// written takes keys with blanks between.
func written(keys string) []api.Entry {
	var list [][]string
	for _, k := range strings.Fields(keys) {
		list = append(list, key(k))
	}
	return entriesOf(list...)
}

func sameAttr(a, b api.Attr) bool {
	return a.Desc == b.Desc && a.Canon == b.Canon && slices.Equal(a.Values, b.Values)
}

func sameEntry(a, b api.Entry) bool {
	return a.Line == b.Line && a.Name == b.Name && slices.Equal(a.Key, b.Key) && slices.EqualFunc(a.Attrs, b.Attrs, sameAttr)
}

// built is the tree of entries that must not be refused.
func built(t *testing.T, entries []api.Entry) *Tree {
	t.Helper()
	tree, err, place := Build(entries)
	if tree == nil || err != api.OK || place != 0 {
		t.Fatalf("Build(%#v): a tree: %v, %d, %d", entries, tree != nil, err, place)
	}
	return tree
}

// holdRefused holds Build to refuse these entries so.
func holdRefused(t *testing.T, entries []api.Entry, err api.Errno, place int) {
	t.Helper()
	tree, gotErr, gotPlace := Build(entries)
	if tree != nil || gotErr != err || gotPlace != place {
		t.Fatalf("Build(%#v): a tree: %v, %d, %d, want none, %d, %d", entries, tree != nil, gotErr, gotPlace, err, place)
	}
}

// isFront is the chapter's word.
func isFront(front, key []string) bool {
	return len(front) <= len(key) && slices.Equal(front, key[:len(front)])
}

// slowOrder is the order of keys: part by part as bytes, the shorter first where one begins the other.
func slowOrder(a, b []string) int {
	for i := range min(len(a), len(b)) {
		if c := strings.Compare(a[i], b[i]); c != 0 {
			return c
		}
	}
	return cmp.Compare(len(a), len(b))
}

// hasKey tells whether one of the entries has a key.
func hasKey(entries []api.Entry, key []string) bool {
	return slices.ContainsFunc(entries, func(e api.Entry) bool { return slices.Equal(e.Key, key) })
}

// slowFault is P9.1, word by word.
func slowFault(entries []api.Entry) (api.Errno, int) {
	if len(entries) == 0 {
		return 92, 0
	}
	for i, e := range entries {
		if hasKey(entries[:i], e.Key) {
			return 90, i
		}
		if i > 0 && (len(e.Key) == 0 || !hasKey(entries[:i], e.Key[:len(e.Key)-1])) {
			return 91, i
		}
	}
	return 0, 0
}

// slow is a tree that looks at all entries for whatever it is asked.
type slow struct {
	entries []api.Entry // in the order of their keys
	places  []int
}

func slowTree(entries []api.Entry) slow {
	var s slow
	for place := range entries {
		s.places = append(s.places, place)
	}
	slices.SortStableFunc(s.places, func(a, b int) int { return slowOrder(entries[a].Key, entries[b].Key) })
	for _, place := range s.places {
		s.entries = append(s.entries, entries[place])
	}
	return s
}

func (s slow) has(n int) bool { return n >= 0 && n < len(s.entries) }

func (s slow) find(key []string) int {
	return slices.IndexFunc(s.entries, func(e api.Entry) bool { return slices.Equal(e.Key, key) })
}

func (s slow) nearest(key []string) int {
	best := -1
	for n, e := range s.entries {
		if isFront(e.Key, key) && (best < 0 || len(e.Key) > len(s.entries[best].Key)) {
			best = n
		}
	}
	return best
}

// parent: the root is not asked for the entry of its parent key, as none is there.
func (s slow) parent(n int) int {
	if !s.has(n) || len(s.entries[n].Key) == 0 {
		return -1
	}
	k := s.entries[n].Key
	return s.find(k[:len(k)-1])
}

// those are the numbers of which a thing holds; none, if there is no n.
func (s slow) those(n int, holds func(m int) bool) []int {
	var out []int
	for m := range s.entries {
		if s.has(n) && holds(m) {
			out = append(out, m)
		}
	}
	return out
}

func (s slow) children(n int) []int {
	return s.those(n, func(m int) bool { return s.parent(m) == n })
}

func (s slow) subtree(n int) []int {
	return s.those(n, func(m int) bool { return isFront(s.entries[n].Key, s.entries[m].Key) })
}

func (s slow) scope(n int, scope api.Scope) []int {
	switch scope {
	case 0:
		return s.those(n, func(m int) bool { return m == n })
	case 1:
		return s.children(n)
	case 2:
		return s.subtree(n)
	}
	return nil
}

func (s slow) up(n int) []int {
	var out []int
	for s.has(n) {
		out = append(out, n)
		n = s.parent(n)
	}
	return out
}

// outside are numbers that no entry of a tree of this length has.
func outside(length int) []int {
	return []int{-1 << 63, -1 << 31, -length, -2, -1, length, length + 1, 2*length + 7, 1 << 31, 1<<63 - 1}
}

// scopes are the three, and some that are none.
func scopes() []api.Scope {
	return []api.Scope{api.BaseObject, api.SingleLevel, api.WholeSubtree, -1, 3, 4, 255, 256, 1 << 32, -1 << 63, 1<<63 - 1}
}

// holdNumber holds all that is asked by a number.
func holdNumber(t *testing.T, tree *Tree, s slow, n int) {
	t.Helper()
	want, place := api.Entry{}, -1
	lo, hi := 0, 0
	if s.has(n) {
		want, place = s.entries[n], s.places[n]
		subtree := s.subtree(n)
		lo, hi = subtree[0], subtree[len(subtree)-1]+1
	}
	if got := tree.Entry(n); !sameEntry(got, want) {
		t.Fatalf("Entry(%d) = %#v, want %#v", n, got, want)
	}
	if got := tree.Place(n); got != place {
		t.Fatalf("Place(%d) = %d, want %d", n, got, place)
	}
	if got := tree.Parent(n); got != s.parent(n) {
		t.Fatalf("Parent(%d) = %d, want %d", n, got, s.parent(n))
	}
	if got := tree.Children(n); !slices.Equal(got, s.children(n)) {
		t.Fatalf("Children(%d) = %d, want %d", n, got, s.children(n))
	}
	if gotLo, gotHi := tree.Span(n); gotLo != lo || gotHi != hi {
		t.Fatalf("Span(%d) = %d, %d, want %d, %d", n, gotLo, gotHi, lo, hi)
	}
	holdGiven(t, tree.Up(n), s.up(n))
	for _, scope := range scopes() {
		holdGiven(t, tree.Scope(n, scope), s.scope(n, scope))
	}
}

// holdGiven holds what an iterator gives: all of it, twice.
func holdGiven(t *testing.T, seq iter.Seq[int], want []int) {
	t.Helper()
	for range 2 {
		if got := slices.Collect(seq); !slices.Equal(got, want) {
			t.Fatalf("it gives %d, want %d", got, want)
		}
	}
}

func holdKey(t *testing.T, tree *Tree, s slow, key []string) {
	t.Helper()
	if got := tree.Find(key); got != s.find(key) {
		t.Fatalf("Find(%q) = %d, want %d", key, got, s.find(key))
	}
	if got := tree.Nearest(key); got != s.nearest(key) {
		t.Fatalf("Nearest(%q) = %d, want %d", key, got, s.nearest(key))
	}
}

// about are keys about a key: its fronts, those with its last parts alone, and those with a part more, less, cut or put together.
func about(key []string) [][]string {
	var out [][]string
	for i := range len(key) + 1 {
		front := slices.Clone(key[:i])
		out = append(out, front, slices.Clone(key[i:]))
		for _, part := range oddParts() {
			out = append(out, append(slices.Clone(front), part), slices.Concat(front, []string{part}, key[i:]))
		}
		if i < len(key) {
			out = append(out, slices.Concat(front, key[i+1:]), slices.Concat(front, []string{key[i] + "!"}, key[i+1:]))
		}
		if i+1 < len(key) {
			out = append(out, slices.Concat(front, []string{key[i] + key[i+1]}, key[i+2:]))
		}
		if i < len(key) && len(key[i]) > 1 {
			out = append(out, slices.Concat(front, []string{key[i][:1], key[i][1:]}, key[i+1:]))
		}
	}
	return out
}

// oddParts are parts that a text made of them may take for others: fronts of one another, lengths, marks between parts, bytes of all kinds.
func oddParts() []string {
	return []string{"", "a", "b", "ab", "aa", "a!", "a\x00", "\x00", "a,b", ",", "/", "a/b", "1", ":", "1:", "1:a", "1:a1:b", "2:ab", "0:", "0", "10", "aaaaaaaaa", "9aaaaaaaaa", "\\", "\\,", "\"", "+", "=", "a=b", "\n", " ", "\x7f", "\x80", "\xff", "\xc3\xa9", "\xfe\xff", "aaaaaaaaaa", "aaaaaaaaaaaaaaaaaaaaaaaa"}
}

// holdTree holds a list of entries, and all that can be asked of its tree, to the chapter.
func holdTree(t *testing.T, entries []api.Entry) {
	t.Helper()
	if err, place := slowFault(entries); err != api.OK {
		holdRefused(t, entries, err, place)
		return
	}
	tree, s := built(t, entries), slowTree(entries)
	if tree.Len() != len(entries) {
		t.Fatalf("Len() = %d, want %d", tree.Len(), len(entries))
	}
	for n := range entries {
		holdNumber(t, tree, s, n)
	}
	for _, n := range outside(len(entries)) {
		holdNumber(t, tree, s, n)
	}
	holdKey(t, tree, s, nil)
	for _, e := range entries {
		holdKey(t, tree, s, e.Key)
	}
}

// holdKeys holds Find and Nearest of all keys about those of a tree.
func holdKeys(t *testing.T, entries []api.Entry) {
	t.Helper()
	tree, s := built(t, entries), slowTree(entries)
	for _, e := range entries {
		for _, k := range about(e.Key) {
			holdKey(t, tree, s, k)
		}
	}
}

func pick[T any](r *rand.Rand, list []T) T { return list[r.Intn(len(list))] }

// somePart is a part out of few, so that parts come again, or any bytes.
func somePart(r *rand.Rand) string {
	switch r.Intn(3) {
	case 0:
		return pick(r, []string{"a", "b", "ab", ""})
	case 1:
		return pick(r, oddParts())
	}
	out := make([]byte, r.Intn(5))
	r.Read(out)
	return string(out)
}

func someKey(r *rand.Rand, most int) []string {
	var out []string
	for range r.Intn(most + 1) {
		out = append(out, somePart(r))
	}
	return out
}

// someEntries are a tree's list: each new one stands beneath any that is there; deep ones are liked or not.
func someEntries(r *rand.Rand, count int) []api.Entry {
	keys := [][]string{someKey(r, 3)}
	recent := r.Intn(3) + 1
	seen := entriesOf(keys...)
	for range count {
		parent := pick(r, keys[len(keys)*(recent-1)/recent:])
		one := append(slices.Clone(parent), somePart(r))
		if !hasKey(seen, one) {
			keys = append(keys, one)
			seen = entriesOf(keys...)
		}
	}
	return seen
}
