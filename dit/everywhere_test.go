package dit

import (
	"math/rand"
	"slices"
	"strconv"
	"strings"
	"sync"
	"testing"

	"roster/api"
)

// roomyTexts are texts with spare room that has something in it.
func roomyTexts(texts []string) []string {
	return append(slices.Clone(texts), "spare", "room")[:len(texts)]
}

// roomy are entries all of whose lists have such room.
func roomy(entries []api.Entry) []api.Entry {
	out := append(slices.Clone(entries), full(1, key("spare")), full(2, key("room")))
	for i, e := range out {
		out[i].Key = roomyTexts(e.Key)
		out[i].Attrs = append(slices.Clone(e.Attrs), api.Attr{Desc: "spare", Values: []string{"spare"}}, api.Attr{Desc: "room"})[:len(e.Attrs)]
		for j, a := range e.Attrs {
			out[i].Attrs[j].Values = roomyTexts(a.Values)
		}
	}
	return out[:len(entries)]
}

// deep is a copy of all of it, spare room too.
func deep(entries []api.Entry) []api.Entry {
	out := slices.Clone(entries[:cap(entries)])
	for i, e := range out {
		out[i].Key = slices.Clone(e.Key[:cap(e.Key)])
		out[i].Attrs = slices.Clone(e.Attrs[:cap(e.Attrs)])
		for j, a := range out[i].Attrs {
			out[i].Attrs[j].Values = slices.Clone(a.Values[:cap(a.Values)])
		}
	}
	return out
}

func spoilTexts(texts []string) {
	for i := range texts[:cap(texts)] {
		texts[:cap(texts)][i] = "spoilt"
	}
}

// spoilAttrs writes over all that a list has, spare room too.
func spoilAttrs(attrs []api.Attr) {
	for i, a := range attrs[:cap(attrs)] {
		spoilTexts(a.Values)
		attrs[:cap(attrs)][i] = api.Attr{Desc: "spoilt", Canon: "spoilt", Values: []string{"spoilt"}}
	}
}

func spoil(entries []api.Entry) {
	for i, e := range entries[:cap(entries)] {
		spoilTexts(e.Key)
		spoilAttrs(e.Attrs)
		entries[:cap(entries)][i] = full(-1, key("spoilt"))
	}
}

// told is all that a tree says of its numbers, as one text.
func told(tree *Tree, keys [][]string) string {
	var out strings.Builder
	number := func(n int) { out.WriteString(strconv.Itoa(n) + " ") }
	number(tree.Len())
	for n := -1; n <= tree.Len(); n++ {
		e := tree.Entry(n)
		out.WriteString(e.Name + strings.Join(e.Key, "/"))
		for _, a := range e.Attrs {
			out.WriteString(a.Desc + a.Canon + strings.Join(a.Values, ","))
		}
		lo, hi := tree.Span(n)
		for _, m := range slices.Concat([]int{e.Line, tree.Place(n), tree.Parent(n), lo, hi}, tree.Children(n), slices.Collect(tree.Up(n))) {
			number(m)
		}
		for _, scope := range scopes() {
			for m := range tree.Scope(n, scope) {
				number(m)
			}
		}
	}
	for _, k := range keys {
		number(tree.Find(k))
		number(tree.Nearest(k))
	}
	return out.String()
}

// asked are the keys of entries, and keys beneath them.
func asked(entries []api.Entry) [][]string {
	keys := [][]string{nil, {"none"}}
	for _, e := range entries {
		keys = append(keys, slices.Clone(e.Key), append(slices.Clone(e.Key), "none", "such"))
	}
	return keys
}

// P9.1, P0.1: the list handed in is not changed, spare room too, whether it is refused or not.
func TestNothingIsChanged(t *testing.T) {
	r := rand.New(rand.NewSource(95))
	for round := range 500 {
		entries := roomy(someEntries(r, r.Intn(8)))
		if round%3 == 0 {
			r.Shuffle(len(entries), func(i, j int) { entries[i], entries[j] = entries[j], entries[i] })
		}
		before := deep(entries)
		tree, err, _ := Build(entries)
		if err == api.OK {
			for _, k := range asked(entries) {
				roomyKey := roomyTexts(k)
				beforeKey := slices.Clone(roomyKey[:cap(roomyKey)])
				tree.Find(roomyKey)
				tree.Nearest(roomyKey)
				if !slices.Equal(roomyKey[:cap(roomyKey)], beforeKey) {
					t.Fatalf("the key became %q", roomyKey[:cap(roomyKey)])
				}
			}
		}
		if !slices.EqualFunc(deep(entries), before, sameEntry) {
			t.Fatalf("the entries became %#v", deep(entries))
		}
	}
}

// P9.1, P0.1: what the caller changes later in what was handed in is seen nowhere.
func TestNothingIsKept(t *testing.T) {
	r := rand.New(rand.NewSource(96))
	for range 200 {
		entries := roomy(someEntries(r, r.Intn(8)))
		keys := asked(entries)
		tree := built(t, entries)
		before := told(tree, keys)
		up, scope := tree.Up(tree.Len()-1), tree.Scope(0, api.SingleLevel)
		wantUp, wantScope := slices.Collect(up), slices.Collect(scope)
		spoil(entries)
		if after := told(tree, keys); after != before {
			t.Fatalf("it told %q, then %q", before, after)
		}
		holdGiven(t, up, wantUp)
		holdGiven(t, scope, wantScope)
	}
}

// P9.1, P0.1: entries that share their lists in what is handed in don't in the tree.
func TestSharedLists(t *testing.T) {
	values := []string{"one", "two"}
	attrs := []api.Attr{{Desc: "cn", Canon: "cn", Values: values}, {Desc: "sn", Canon: "sn", Values: values}}
	path := []string{"o", "a", "b"}
	var entries []api.Entry
	for i := range 3 {
		entries = append(entries, api.Entry{Line: i, Key: path[:i+1], Attrs: attrs})
	}
	tree := built(t, entries)
	whole := tree.Entry(1)
	spoilTexts(whole.Attrs[0].Values)
	if !slices.Equal(whole.Attrs[1].Values, []string{"one", "two"}) {
		t.Errorf("two attributes of one answer share their values: %q", whole.Attrs[1].Values)
	}
	spoilTexts(whole.Key)
	spoilAttrs(whole.Attrs)
	for n, e := range entries {
		if got := tree.Entry(n); !sameEntry(got, e) {
			t.Errorf("Entry(%d) = %#v, want %#v", n, got, e)
		}
	}
}

// P9.7, P0.1: what the caller writes into an answer is seen nowhere else.
func TestAnswersAreNewMemory(t *testing.T) {
	r := rand.New(rand.NewSource(97))
	for range 200 {
		entries := someEntries(r, r.Intn(8))
		tree, keys := built(t, entries), asked(entries)
		before := told(tree, keys)
		for n := range entries {
			first, second := tree.Entry(n), tree.Entry(n)
			spoilTexts(first.Key)
			spoilAttrs(first.Attrs)
			if !sameEntry(second, slowTree(entries).entries[n]) {
				t.Fatalf("by another answer's change it became %#v", second)
			}
			list, other := tree.Children(n), tree.Children(n)
			want := slices.Clone(other)
			for i := range list[:cap(list)] {
				list[:cap(list)][i] = -7
			}
			if !slices.Equal(other, want) {
				t.Fatalf("by another answer's change it became %d", other)
			}
		}
		if after := told(tree, keys); after != before {
			t.Fatalf("it told %q, then %q", before, after)
		}
	}
}

// P9.7, P0.1: trees of the same entries tell the same, whatever order a map is gone through; and no call changes one.
func TestAnswersAreFixed(t *testing.T) {
	r := rand.New(rand.NewSource(98))
	for range 50 {
		entries := someEntries(r, 30)
		keys := asked(entries)
		tree := built(t, entries)
		before := told(tree, keys)
		for range 10 {
			if other := told(built(t, entries), keys); other != before {
				t.Fatalf("another tree of the same tells %q, not %q", other, before)
			}
		}
		if after := told(tree, keys); after != before {
			t.Fatalf("it told %q, then %q", before, after)
		}
	}
}

// P9.7, P0.1: one tree may be asked by many at once.
func TestAtOnce(t *testing.T) {
	entries := someEntries(rand.New(rand.NewSource(99)), 25)
	keys := asked(entries)
	tree := built(t, entries)
	want := told(tree, keys)
	scope := tree.Scope(0, api.WholeSubtree)
	var all sync.WaitGroup
	for range 8 {
		all.Go(func() {
			for range 20 {
				if got := told(tree, keys); got != want {
					t.Errorf("it told %q", got)
				}
				if got := slices.Collect(scope); len(got) != tree.Len() {
					t.Errorf("it gave %d", got)
				}
				other, _, _ := Build(entries)
				if got := told(other, keys); got != want {
					t.Errorf("another tree of the same told %q", got)
				}
			}
		})
	}
	all.Wait()
}

// P9.7: no call panics, at any number, key or scope, of trees of all shapes.
func TestNoneRefused(t *testing.T) {
	r := rand.New(rand.NewSource(100))
	for range 100 {
		tree := built(t, someEntries(r, r.Intn(12)))
		for range 50 {
			n, scope := int(r.Uint64()>>r.Intn(64)), api.Scope(r.Uint64()>>r.Intn(64))
			if r.Intn(2) == 0 {
				n, scope = -n, -scope
			}
			tree.Entry(n)
			tree.Place(n)
			tree.Parent(n)
			tree.Children(n)
			tree.Span(n)
			for range tree.Up(n) {
				tree.Len()
			}
			for range tree.Scope(n, scope) {
				tree.Len()
			}
			tree.Find(someKey(r, 70))
			tree.Nearest(someKey(r, 70))
		}
	}
}
