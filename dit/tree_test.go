package dit

import (
	"math/rand"
	"slices"
	"strconv"
	"strings"
	"testing"

	"roster/api"
)

// P9.2: the numbers and places of the chapter's examples.
func TestNumbers(t *testing.T) {
	for _, c := range []struct {
		keys, want string
		places     []int
	}{
		{"o o/b o/a o/b/x", "o o/a o/b o/b/x", []int{0, 2, 1, 3}},
		{"o o/a o/a/b o/a!", "o o/a o/a/b o/a!", []int{0, 1, 2, 3}},
		{"x/y x/y/z", "x/y x/y/z", []int{0, 1}},
		{"/ a a/b", "/ a a/b", []int{0, 1, 2}},
		{"/ b a b/c a/d", "/ a a/d b b/c", []int{0, 2, 4, 1, 3}},
		{"o o/a! o/a o/a!/x o/a/x", "o o/a o/a/x o/a! o/a!/x", []int{0, 2, 4, 1, 3}},
		{"o o/b o/ o/B o/b/ o/~", "o o/ o/B o/b o/b/ o/~", []int{0, 2, 3, 1, 4, 5}},
	} {
		tree := built(t, written(c.keys))
		want := written(c.want)
		if tree.Len() != len(want) {
			t.Fatalf("%s: Len() = %d", c.keys, tree.Len())
		}
		for n, e := range want {
			if got := tree.Entry(n); !slices.Equal(got.Key, e.Key) || tree.Place(n) != c.places[n] {
				t.Errorf("%s: %d is %q from the place %d, want %q from %d", c.keys, n, got.Key, tree.Place(n), e.Key, c.places[n])
			}
		}
	}
}

// P9.2: bytes are compared without a sign.
func TestOrderOfBytes(t *testing.T) {
	keys := [][]string{{"o"}}
	for b := 255; b >= 0; b-- {
		keys = append(keys, []string{"o", string([]byte{byte(b)})})
	}
	tree := built(t, entriesOf(keys...))
	for b := range 256 {
		if got := tree.Entry(b + 1).Key[1]; got != string([]byte{byte(b)}) || tree.Place(b+1) != 256-b {
			t.Errorf("%d is %q", b+1, got)
		}
	}
}

// P9.2: each field comes back as it was handed in, odd ones too.
func TestEntry(t *testing.T) {
	entries := []api.Entry{
		{Line: -5, Name: "no \xff name", Key: []string{"o"}},
		{Line: 1<<63 - 1, Key: []string{"o", "b"}, Attrs: []api.Attr{{}, {Values: []string{"", "", "\x00"}}, {Desc: "cn", Canon: "other"}}},
		{Key: []string{"o", "a"}, Name: strings.Repeat("n", 5000), Attrs: []api.Attr{{Desc: "x", Values: []string{}}}},
	}
	tree := built(t, entries)
	for n, place := range []int{0, 2, 1} {
		if got := tree.Entry(n); !sameEntry(got, entries[place]) {
			t.Errorf("Entry(%d) = %#v, want %#v", n, got, entries[place])
		}
	}
}

// P9.2 to P9.6: there is no such number.
func TestNoSuchNumber(t *testing.T) {
	for _, keys := range []string{"/", "o", "x/y", "o o/b o/a o/b/x"} {
		tree := built(t, written(keys))
		for _, n := range outside(tree.Len()) {
			lo, hi := tree.Span(n)
			if !sameEntry(tree.Entry(n), api.Entry{}) || tree.Place(n) != -1 || tree.Parent(n) != -1 || len(tree.Children(n)) != 0 || lo != 0 || hi != 0 {
				t.Errorf("%s: %d: %#v, %d, %d, %d, %d, %d", keys, n, tree.Entry(n), tree.Place(n), tree.Parent(n), tree.Children(n), lo, hi)
			}
			holdGiven(t, tree.Up(n), nil)
			for _, scope := range scopes() {
				holdGiven(t, tree.Scope(n, scope), nil)
			}
		}
	}
}

// P9.3: the chapter's examples, and others of their kind.
func TestFindAndNearest(t *testing.T) {
	for _, c := range []struct {
		keys, key     string
		find, nearest int
	}{
		{"o o/b o/a o/b/x", "o/b", 2, 2},
		{"o o/b o/a o/b/x", "/", -1, -1},
		{"o o/b o/a o/b/x", "o/b/y/z", -1, 2},
		{"o o/b o/a o/b/x", "o", 0, 0},
		{"o o/b o/a o/b/x", "p", -1, -1},
		{"o o/b o/a o/b/x", "o/b/x", 3, 3},
		{"o o/b o/a o/b/x", "o/b/x/y/z/q", -1, 3},
		{"o o/b o/a o/b/x", "o/a/x", -1, 1},
		{"o o/b o/a o/b/x", "o/c", -1, 0},
		{"o o/b o/a o/b/x", "o/c/b/x", -1, 0},
		{"o o/b o/a o/b/x", "o/", -1, 0},
		{"o o/b o/a o/b/x", "p/b/x", -1, -1},
		{"o o/b o/a o/b/x", "b/x", -1, -1},
		{"o o/b o/a o/b/x", "ob", -1, -1},
		{"o o/b o/a o/b/x", "O/b", -1, -1},
		{"/ a a/b", "q", -1, 0},
		{"/ a a/b", "/", 0, 0},
		{"/ a a/b", "a/b", 2, 2},
		{"/ a a/b", "a/c/b", -1, 1},
		{"x/y x/y/z", "x", -1, -1},
		{"x/y x/y/z", "/", -1, -1},
		{"x/y x/y/z", "x/y", 0, 0},
		{"x/y x/y/z", "x/y/q", -1, 0},
		{"x/y x/y/z", "x/y/z/q", -1, 1},
		{"x/y x/y/z", "x/q/z", -1, -1},
		{"x/y x/y/z", "y/z", -1, -1},
		{"o o/ o//", "o//", 2, 2},
		{"o o/ o//", "o///", -1, 2},
	} {
		tree := built(t, written(c.keys))
		if find, nearest := tree.Find(key(c.key)), tree.Nearest(key(c.key)); find != c.find || nearest != c.nearest {
			t.Errorf("%s: Find(%s) = %d, Nearest = %d, want %d, %d", c.keys, c.key, find, nearest, c.find, c.nearest)
		}
	}
	tree := built(t, written("/ a"))
	if tree.Find([]string{}) != 0 || tree.Nearest([]string{}) != 0 {
		t.Errorf("the empty list is another key than nil")
	}
}

// P9.3: keys about those of random trees.
func TestKeysAbout(t *testing.T) {
	r := rand.New(rand.NewSource(93))
	for range 60 {
		entries := someEntries(r, r.Intn(10))
		holdKeys(t, entries)
		tree, s := built(t, entries), slowTree(entries)
		for range 50 {
			holdKey(t, tree, s, someKey(r, 5))
		}
	}
}

// P9.4: the chapter's examples, and others of their kind.
func TestParentAndChildren(t *testing.T) {
	for _, c := range []struct {
		keys     string
		parents  []int
		children [][]int
	}{
		{"o o/b o/a o/b/x", []int{-1, 0, 0, 2}, [][]int{{1, 2}, nil, {3}, nil}},
		{"/ a a/b", []int{-1, 0, 1}, [][]int{{1}, {2}, nil}},
		{"x/y x/y/z", []int{-1, 0}, [][]int{{1}, nil}},
		{"o o/a o/a/b o/a!", []int{-1, 0, 1, 0}, [][]int{{1, 3}, {2}, nil, nil}},
		{"/ b b/x b/y a c c/x c/x/y", []int{-1, 0, 0, 2, 2, 0, 5, 6}, [][]int{{1, 2, 5}, nil, {3, 4}, nil, nil, {6}, {7}, nil}},
	} {
		tree := built(t, written(c.keys))
		for n := range c.parents {
			if tree.Parent(n) != c.parents[n] || !slices.Equal(tree.Children(n), c.children[n]) {
				t.Errorf("%s: Parent(%d) = %d, want %d; Children = %d, want %d", c.keys, n, tree.Parent(n), c.parents[n], tree.Children(n), c.children[n])
			}
		}
	}
}

// P9.5: the chapter's examples, and others of their kind.
func TestSpan(t *testing.T) {
	for _, c := range []struct {
		keys string
		ends []int
	}{
		{"o o/b o/a o/b/x", []int{4, 2, 4, 4}},
		{"o o/a o/a/b o/a!", []int{4, 3, 3, 4}},
		{"o", []int{1}},
		{"/ a a/b", []int{3, 3, 3}},
		{"/ b b/x b/y a c c/x c/x/y", []int{8, 2, 5, 4, 5, 8, 8, 8}},
	} {
		tree := built(t, written(c.keys))
		for n, end := range c.ends {
			if lo, hi := tree.Span(n); lo != n || hi != end {
				t.Errorf("%s: Span(%d) = %d, %d, want %d, %d", c.keys, n, lo, hi, n, end)
			}
		}
	}
}

// P9.2 to P9.6: a long chain, asked from its end.
func TestChain(t *testing.T) {
	const length = 1500
	deepest := slices.Repeat([]string{"p"}, length)
	var keys [][]string
	for i := 1; i <= length; i++ {
		keys = append(keys, deepest[:i])
	}
	tree := built(t, entriesOf(keys...))
	if tree.Find(deepest) != length-1 || tree.Nearest(append(slices.Clone(deepest), "p", "p")) != length-1 {
		t.Errorf("Find = %d", tree.Find(deepest))
	}
	n := length - 1
	for m := range tree.Up(n) {
		lo, hi := tree.Span(m)
		if m != n || tree.Place(m) != m || tree.Parent(m) != m-1 || lo != m || hi != length || tree.Nearest(append(slices.Clone(keys[m]), "q", "p")) != m {
			t.Fatalf("%d: place %d, parent %d, span %d, %d", m, tree.Place(m), tree.Parent(m), lo, hi)
		}
		n--
	}
	if n != -1 {
		t.Errorf("Up ended above %d", n)
	}
}

// P9.2 to P9.6: many children, told in their order whatever order they came in.
func TestManyChildren(t *testing.T) {
	const count = 5000
	r := rand.New(rand.NewSource(94))
	keys := [][]string{nil}
	for _, i := range r.Perm(count) {
		keys = append(keys, []string{strconv.Itoa(10000 + i)})
		keys = append(keys, []string{strconv.Itoa(10000 + i), "x"})
	}
	tree := built(t, entriesOf(keys...))
	children := tree.Children(0)
	if len(children) != count || tree.Len() != 2*count+1 {
		t.Fatalf("%d children of %d", len(children), tree.Len())
	}
	for i, child := range children {
		lo, hi := tree.Span(child)
		if child != 2*i+1 || tree.Entry(child).Key[0] != strconv.Itoa(10000+i) || lo != child || hi != child+2 || !slices.Equal(keys[tree.Place(child)], tree.Entry(child).Key) {
			t.Fatalf("the child %d is %d, %q", i, child, tree.Entry(child).Key)
		}
	}
}
