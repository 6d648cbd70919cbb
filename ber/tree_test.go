package ber

import (
	"math/rand"
	"slices"
	"strings"
	"testing"

	"roster/api"
)

// letters stand for every case of a tag byte and of a length byte.
const letters = "\x00\x01\x02\x03\x04\x1f\x30\x3f\x80\x81\x82\x84\x85\xa0\xff"

// P2.2, ordinary inputs and the chapter's examples.
func TestTree(t *testing.T) {
	five := []api.Node{node(1, u, true, 16, ""), node(2, u, false, 2, "\x05")}
	for _, x := range []struct {
		b    string
		want []api.Node
	}{
		{"\x30\x00", []api.Node{node(1, u, true, 16, "")}},
		{"\x30\x03\x02\x01\x05", five},
		{"\x30\x81\x03\x02\x01\x05", five},
		{"\x30\x82\x00\x03\x02\x01\x05", five},
		{"\x30\x83\x00\x00\x03\x02\x01\x05", five},
		{"\x30\x84\x00\x00\x00\x03\x02\x01\x05", five},
		{"\x30\x04\x02\x81\x01\x05", five},
		{"\xa3\x04\x04\x00\x87\x00", []api.Node{node(1, c, true, 3, ""), node(2, u, false, 4, ""), node(2, c, false, 7, "")}},
		{"\x04\x02\x30\x01", []api.Node{node(1, u, false, 4, "\x30\x01")}}, // any bytes, where it isn't made
		{"\x70\x07\xe1\x02\x41\x00\xdd\x01x", []api.Node{node(1, a, true, 16, ""), node(2, p, true, 1, ""), node(3, a, false, 1, ""), node(2, p, false, 29, "x")}},
	} {
		got, err, at := Tree(x.b)
		sameNodes(t, "Tree", x.b, got, err, at, x.want, api.OK, 0)
	}
}

// P2.2, wrong inputs: the place of each refusal.
func TestTreeRefuses(t *testing.T) {
	for _, x := range []struct {
		b  string
		e  api.Errno
		at int
	}{
		{"", api.ErrShort, 0},
		{"\x30", api.ErrShort, 1},
		{"\x1f\x00", api.ErrTag, 0},
		{"\x3f", api.ErrTag, 0},
		{"\x30\x80\x00\x00", api.ErrIndefinite, 1},
		{"\x30\x85", api.ErrLength, 1},
		{"\x30\x82\x01", api.ErrShort, 3},
		{"\x30\x84\xff\xff\xff\xff", api.ErrShort, 6},
		{"\x30\x03\x02\x02\x05", api.ErrOver, 5},
		{"\x30\x03\x02\x02\x05\x05", api.ErrOver, 5},
		{"\x30\x01\x02", api.ErrOver, 3},
		{"\x30\x04\x30\x01\x02\x00", api.ErrOver, 5},
		{"\x30\x00\x00", api.ErrTrail, 2},
		{"\x30\x02\x1f\x00\x00", api.ErrTag, 2},
		{"\x04\x00\x1f", api.ErrTrail, 2},
		{"\x30\x04\x02\x01\x05\x02", api.ErrOver, 6},
		{"\x30\x05\x02\x01\x05\x02\x80", api.ErrIndefinite, 6},
		{"\x30\x05\x02\x01\x05\x02\x99", api.ErrLength, 6},
		{"\x30\x04\x04\x83\x00\x00\x01", api.ErrOver, 6},
		{"\x30\x05\x02\x01\x05\x02", api.ErrShort, 6},
		{"\x30\x06\x30\x02\x1f\x00\x9f\x00", api.ErrTag, 4}, // the first that is met
	} {
		got, err, at := Tree(x.b)
		sameNodes(t, "Tree", x.b, got, err, at, nil, x.e, x.at)
	}
}

// P2.2, P2.6: at most 64 elements in each other, whatever stands in the innermost.
func TestTreeDepth(t *testing.T) {
	for _, x := range []struct {
		b     string
		size  int
		nodes int
		e     api.Errno
		at    int
	}{
		{nested(64, ""), 128, 64, api.OK, 0},
		{nested(65, ""), 131, 0, api.ErrDepth, 129},
		{nested(63, "\x04\x00"), 128, 64, api.OK, 0},
		{nested(64, "\x04\x00"), 131, 0, api.ErrDepth, 129},
		{nested(64, "\x1f"), 129, 0, api.ErrDepth, 128},      // the depth ahead of the tag
		{nested(64, "\x04"), 129, 0, api.ErrDepth, 128},      // and ahead of what is missing
		{nested(65, "") + "x", 132, 0, api.ErrDepth, 129},    // and of what stands behind
		{nested(64, "") + "x", 129, 0, api.ErrTrail, 128},    // which is told behind all
		{nested(100, ""), 236, 0, api.ErrDepth, 3*36 + 2*28}, // behind 36 headers of three bytes and 28 of two
	} {
		if len(x.b) != x.size {
			t.Fatalf("%d bytes, want %d", len(x.b), x.size)
		}
		nodes, err, at := Tree(x.b)
		if len(nodes) != x.nodes || err != x.e || at != x.at {
			t.Errorf("Tree of %d bytes: %d nodes, %d, %d; want %d, %d, %d", len(x.b), len(nodes), err, at, x.nodes, x.e, x.at)
		}
		for i, n := range nodes {
			if n.Depth != i+1 {
				t.Errorf("node %d is at depth %d", i, n.Depth)
			}
		}
	}
	n := 0
	for range Elems(nested(65, "")) {
		n++
	}
	if n != 64 {
		t.Errorf("Elems gives %d of 65 elements in each other; want 64", n)
	}
}

// P2.1, P2.2, P2.4 and P2.6 against the rule read slowly, at all short texts and at many longer ones.
func TestReadersAgainstTheRule(t *testing.T) {
	forAll(letters, 4, func(b string) { checkReaders(t, b) })
	forAll("\x00\x02\x04\x1f\x30\x80\x81", 6, func(b string) { checkReaders(t, b) })
	r := rand.New(rand.NewSource(2))
	for range 30000 {
		checkReaders(t, someBytes(r))
	}
}

func checkReaders(t *testing.T, b string) {
	t.Helper()
	nodes, err, at := Tree(b)
	want, wantErr, wantAt := slowTree(b)
	sameNodes(t, "Tree", b, nodes, err, at, want, wantErr, wantAt)
	h, err := Head(b)
	if wantHead, wantErr, _ := slowRule(b, 0, len(b), 1, api.ErrShort, 2, 6); h != wantHead || err != wantErr {
		t.Fatalf("Head(%q) = %v, %d; want %v, %d", b, h, err, wantHead, wantErr)
	}
	items, _, _ := slowItems(b)
	n := 0
	for place, h := range Elems(b) {
		if n == len(items) || items[n].place != place || items[n].head != h {
			t.Fatalf("Elems(%q) gives %d %v as its element %d; want %v", b, place, h, n, items)
		}
		n++
	}
	if n != len(items) {
		t.Fatalf("Elems(%q) gives %d elements; want %d", b, n, len(items))
	}
	checkSplit(t, b)
}

func checkSplit(t *testing.T, b string) {
	t.Helper()
	list, err, at := Split(b)
	var want []api.Elem
	for q := 0; q < len(b); {
		h, wantErr, wantAt := slowRule(b, q, len(b), 65, api.ErrShort, 3, 7)
		if wantErr != api.OK {
			if len(list) != 0 || err != wantErr || at != wantAt {
				t.Fatalf("Split(%q) = %v, %d, %d; want %d, %d", b, list, err, at, wantErr, wantAt)
			}
			return
		}
		want = append(want, api.Elem{Class: h.Class, Made: h.Made, Tag: h.Tag, Body: b[q+h.Size:][:h.Length]})
		q += h.Size + h.Length
	}
	if !slices.Equal(list, want) || err != api.OK || at != 0 {
		t.Fatalf("Split(%q) = %v, %d, %d; want %v", b, list, err, at, want)
	}
}

// P2.2, what follows of it: every shorter front of a tree's bytes is short, and nothing may stand behind.
func TestTreeFronts(t *testing.T) {
	r := rand.New(rand.NewSource(3))
	for range 200 {
		b, _, _ := Write(someTree(r, 6))
		for i := range len(b) {
			if nodes, err, at := Tree(b[:i]); len(nodes) != 0 || err != api.ErrShort || at != i {
				t.Fatalf("Tree(%q) = %v, %d, %d; want ErrShort and its length", b[:i], nodes, err, at)
			}
		}
		for _, more := range []string{"\x00", "\x1f", "\x30\x00", "\x30\x80", b} {
			if nodes, err, at := Tree(b + more); len(nodes) != 0 || err != api.ErrTrail || at != len(b) {
				t.Fatalf("Tree(%q) = %v, %d, %d; want ErrTrail, %d", b+more, nodes, err, at, len(b))
			}
		}
	}
}

// P2.2, P2.4, P2.9: lengths in all their forms, as great as they are in use.
func TestLongContents(t *testing.T) {
	for _, n := range []int{0, 1, 127, 128, 255, 256, 65535, 65536, 16777215, 16777216} {
		body := strings.Repeat("x", n)
		b := "\x04" + shortest(n) + body
		if nodes, err, at := Tree(b); len(nodes) != 1 || nodes[0] != (api.Node{Depth: 1, Tag: 4, Body: body}) || err != api.OK || at != 0 {
			t.Errorf("Tree of a content of %d bytes: %d nodes, %d, %d", n, len(nodes), err, at)
		}
		if list, err, at := Split(b + b); len(list) != 2 || list[1] != (api.Elem{Tag: 4, Body: body}) || err != api.OK || at != 0 {
			t.Errorf("Split of contents of %d bytes: %d elements, %d, %d", n, len(list), err, at)
		}
	}
}

// P2.2, P2.9: a great many elements, one behind the other.
func TestTreeWide(t *testing.T) {
	inner := strings.Repeat("\x04\x00", 200000)
	nodes, err, at := Tree("\x30" + shortest(len(inner)) + inner)
	if len(nodes) != 200001 || err != api.OK || at != 0 {
		t.Errorf("Tree of 200000 elements in one: %d nodes, %d, %d", len(nodes), err, at)
	}
	if list, err, at := Split(inner); len(list) != 200000 || err != api.OK || at != 0 {
		t.Errorf("Split of 200000 elements: %d, %d, %d", len(list), err, at)
	}
}
