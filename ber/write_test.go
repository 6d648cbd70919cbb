package ber

import (
	"math"
	"math/rand"
	"slices"
	"strings"
	"testing"

	"roster/api"
)

// P2.3, ordinary inputs and the chapter's examples.
func TestWrite(t *testing.T) {
	for _, x := range []struct {
		nodes []api.Node
		want  string
	}{
		{[]api.Node{node(1, u, true, 16, ""), node(2, u, false, 4, "ab")}, "\x30\x04\x04\x02ab"},
		{[]api.Node{node(1, u, true, 16, "")}, "\x30\x00"},
		{[]api.Node{node(1, u, false, 0, "")}, "\x00\x00"},
		{[]api.Node{node(1, p, true, 30, "")}, "\xfe\x00"},
		{[]api.Node{node(1, c, true, 3, ""), node(2, a, true, 1, ""), node(3, u, false, 5, ""), node(2, c, false, 7, "x")}, "\xa3\x07\x61\x02\x05\x00\x87\x01x"},
		{[]api.Node{node(1, c, true, 0, ""), node(2, c, true, 0, ""), node(3, c, true, 0, ""), node(2, c, true, 0, ""), node(3, c, false, 0, "z")}, "\xa0\x09\xa0\x02\xa0\x00\xa0\x03\x80\x01z"},
	} {
		if b, err, at := Write(x.nodes); b != x.want || err != api.OK || at != 0 {
			t.Errorf("Write(%v) = %q, %d, %d; want %q", x.nodes, b, err, at, x.want)
		}
	}
}

// P2.3, wrong inputs: the number of the first node at fault, and the order of the errors.
func TestWriteRefuses(t *testing.T) {
	top := api.Node{Depth: 1, Made: true, Tag: 16}
	leaf := api.Node{Depth: 2, Tag: 4}
	for _, x := range []struct {
		nodes []api.Node
		at    int
	}{
		{nil, 0},
		{[]api.Node{}, 0},
		{[]api.Node{node(2, u, true, 16, "")}, 0},
		{[]api.Node{node(0, u, true, 16, "")}, 0},
		{[]api.Node{node(-1, u, true, 16, "")}, 0},
		{[]api.Node{node(math.MaxInt, u, true, 16, "")}, 0},
		{[]api.Node{node(math.MinInt, u, true, 16, "")}, 0},
		{[]api.Node{node(1, 4, false, 4, "")}, 0},
		{[]api.Node{node(1, -1, false, 4, "")}, 0},
		{[]api.Node{node(1, math.MaxInt, false, 4, "")}, 0},
		{[]api.Node{node(1, u, false, 31, "")}, 0},
		{[]api.Node{node(1, u, false, -1, "")}, 0},
		{[]api.Node{node(1, u, false, 256, "")}, 0},
		{[]api.Node{node(1, u, true, 16, "x")}, 0},
		{[]api.Node{top, node(3, u, false, 4, "")}, 1},
		{[]api.Node{node(1, u, false, 4, ""), node(2, u, false, 4, "")}, 1},
		{[]api.Node{node(1, u, false, 4, ""), node(1, u, false, 4, "")}, 1},
		{[]api.Node{top, top}, 1},
		{[]api.Node{top, node(2, u, false, 31, "")}, 1},
		{[]api.Node{top, node(2, 4, false, 4, "")}, 1},
		{[]api.Node{top, node(2, u, true, 16, "x")}, 1},
		{[]api.Node{top, node(math.MaxInt, u, false, 4, "")}, 1},
		{[]api.Node{top, leaf, node(3, u, false, 4, "")}, 2},
		{[]api.Node{top, leaf, node(1, u, false, 4, "")}, 2},
		{[]api.Node{top, leaf, node(0, u, false, 4, ""), node(9, 9, false, 99, "")}, 2},
	} {
		if b, err, at := Write(x.nodes); b != "" || err != api.ErrNode || at != x.at {
			t.Errorf("Write(%v) = %q, %d, %d; want ErrNode, %d", x.nodes, b, err, at, x.at)
		}
	}
}

// P2.3: at most 64 depths; a node at the depth 65 that is at fault otherwise too is ErrNode.
func TestWriteDepth(t *testing.T) {
	var nodes []api.Node
	for d := range 64 {
		nodes = append(nodes, api.Node{Depth: d + 1, Made: true, Tag: 16})
	}
	if b, err, at := Write(nodes); b != nested(64, "") || err != api.OK || at != 0 {
		t.Errorf("64 depths: %q, %d, %d", b, err, at)
	}
	for _, x := range []struct {
		more []api.Node
		e    api.Errno
		at   int
	}{
		{[]api.Node{node(65, u, false, 4, "")}, api.ErrDepth, 64},
		{[]api.Node{node(65, u, true, 4, ""), node(66, u, true, 31, "")}, api.ErrDepth, 64},
		{[]api.Node{node(65, u, false, 31, "")}, api.ErrNode, 64},
		{[]api.Node{node(65, 4, false, 4, "")}, api.ErrNode, 64},
		{[]api.Node{node(65, u, true, 4, "x")}, api.ErrNode, 64},
		{[]api.Node{node(66, u, false, 4, "")}, api.ErrNode, 64},
		{[]api.Node{node(64, u, true, 4, ""), node(65, u, false, 4, "")}, api.ErrDepth, 65},
		{[]api.Node{node(64, u, false, 4, ""), node(65, u, false, 4, "")}, api.ErrNode, 65},
	} {
		if b, err, at := Write(slices.Concat(nodes, x.more)); b != "" || err != x.e || at != x.at {
			t.Errorf("64 depths and %v: %q, %d, %d; want %d, %d", x.more, b, err, at, x.e, x.at)
		}
	}
}

// P2.3, P2.5: each length in its shortest form, of what holds elements too.
func TestWriteLengths(t *testing.T) {
	for _, n := range []int{0, 1, 126, 127, 128, 129, 254, 255, 256, 257, 65535, 65536, 16777215, 16777216} {
		body := strings.Repeat("x", n)
		want := "\x44" + shortest(n) + body
		if b, err, at := Write([]api.Node{node(1, a, false, 4, body)}); b != want || err != api.OK || at != 0 {
			t.Errorf("Write of a content of %d bytes: %d bytes, %d, %d", n, len(b), err, at)
		}
		if b, err := Join(api.Elem{Class: a, Tag: 4, Body: body}); b != want || err != api.OK {
			t.Errorf("Join of a content of %d bytes: %d bytes, %d", n, len(b), err)
		}
		whole := "\x30" + shortest(len(want)) + want
		if b, err, at := Write([]api.Node{node(1, u, true, 16, ""), node(2, a, false, 4, body)}); b != whole || err != api.OK || at != 0 {
			t.Errorf("Write of a content of %d bytes in another: %d bytes, %d, %d", n, len(b), err, at)
		}
	}
}

// P2.3: a content that is longer than a length can say is refused behind every other fault; its bytes are never laid down.
func TestWriteBig(t *testing.T) {
	body := strings.Repeat("x", 1<<20)
	// The header of each takes five bytes, so 4095 of them leave 1028101 bytes up to 4294967295.
	nodes := []api.Node{node(1, u, true, 16, "")}
	for range 4095 {
		nodes = append(nodes, api.Node{Depth: 2, Tag: 4, Body: body})
	}
	rest := 4294967295 - 4095*(5+1<<20) - 5
	for _, x := range []struct {
		last api.Node
		e    api.Errno
		at   int
	}{
		{api.Node{Depth: 2, Tag: 4, Body: body[:rest+1]}, api.ErrBig, 0},
		{api.Node{Depth: 2, Tag: 4, Body: body}, api.ErrBig, 0},
		{api.Node{Depth: 2, Tag: 31, Body: body}, api.ErrNode, 4096},
		{api.Node{Depth: 1, Tag: 4, Body: body}, api.ErrNode, 4096},
	} {
		if b, err, at := Write(append(nodes, x.last)); b != "" || err != x.e || at != x.at {
			t.Errorf("Write of more than 4294967295 bytes: %d bytes, %d, %d; want %d, %d", len(b), err, at, x.e, x.at)
		}
	}
	// The greatest content that can be said: measured alone, for its bytes would fill the machine.
	lengths, total, err := measure(append(nodes, api.Node{Depth: 2, Tag: 4, Body: body[:rest]}))
	if err != api.OK || len(lengths) != 4097 || lengths[0] != 4294967295 || total != 4294967295+6 {
		t.Errorf("4294967295 bytes: %d lengths, %d bytes in all, error %d", len(lengths), total, err)
	}
	// A content too long deep inside is one too, however short what holds it would be.
	inner := append([]api.Node{node(1, u, true, 16, "")}, nodes...)
	for i := 1; i < len(inner); i++ {
		inner[i].Depth++
	}
	inner = append(inner, api.Node{Depth: 3, Tag: 4, Body: body})
	if b, err, at := Write(inner); b != "" || err != api.ErrBig || at != 0 {
		t.Errorf("Write of more than 4294967295 bytes inside: %d bytes, %d, %d", len(b), err, at)
	}
}

// P2.5, ordinary inputs, the chapter's example, and wrong inputs.
func TestJoin(t *testing.T) {
	for _, x := range []struct {
		e    api.Elem
		want string
		err  api.Errno
	}{
		{api.Elem{Class: c}, "\x80\x00", api.OK},
		{api.Elem{Made: true, Tag: 16, Body: "\xff\x00"}, "\x30\x02\xff\x00", api.OK}, // whatever the content is
		{api.Elem{Class: p, Made: true, Tag: 30, Body: "x"}, "\xfe\x01x", api.OK},
		{api.Elem{Class: a, Tag: 30}, "\x5e\x00", api.OK},
		{api.Elem{Class: 4}, "", api.ErrNode},
		{api.Elem{Class: -1}, "", api.ErrNode},
		{api.Elem{Class: math.MinInt}, "", api.ErrNode},
		{api.Elem{Tag: 31}, "", api.ErrNode},
		{api.Elem{Tag: -1}, "", api.ErrNode},
		{api.Elem{Tag: math.MaxInt}, "", api.ErrNode},
	} {
		if b, err := Join(x.e); b != x.want || err != x.err {
			t.Errorf("Join(%v) = %q, %d; want %q, %d", x.e, b, err, x.want, x.err)
		}
	}
}

// What follows of P2.2 to P2.5: Tree gives back what Write writes; its contents are what Join makes of the elements in them.
func TestRoundTrips(t *testing.T) {
	r := rand.New(rand.NewSource(4))
	for range 3000 {
		nodes := someTree(r, r.Intn(40))
		b, err, at := Write(nodes)
		if err != api.OK || at != 0 {
			t.Fatalf("Write(%v): %d, %d", nodes, err, at)
		}
		back, err, at := Tree(b)
		sameNodes(t, "Tree", b, back, err, at, nodes, api.OK, 0)
		checkJoined(t, b)
	}
	forAll(letters, 4, func(b string) {
		nodes, err, _ := Tree(b)
		if err != api.OK {
			return
		}
		short, err, at := Write(nodes)
		if err != api.OK || at != 0 || len(short) > len(b) {
			t.Fatalf("Write of what Tree takes, %q: %q, %d, %d", b, short, err, at)
		}
		again, err, at := Tree(short)
		sameNodes(t, "Tree", short, again, err, at, nodes, api.OK, 0)
	})
}

// checkJoined takes b, which Write wrote, apart by Split and puts it together by Join, all the way down.
func checkJoined(t *testing.T, b string) {
	t.Helper()
	list, err, _ := Split(b)
	if err != api.OK {
		t.Fatalf("Split(%q): %d", b, err)
	}
	whole := ""
	for _, e := range list {
		if e.Made {
			checkJoined(t, e.Body)
		}
		part, err := Join(e)
		if err != api.OK {
			t.Fatalf("Join(%v): %d", e, err)
		}
		whole += part
	}
	if whole != b {
		t.Fatalf("%q, taken apart and joined, is %q", b, whole)
	}
}
