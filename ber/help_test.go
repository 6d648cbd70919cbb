package ber

import (
	"math/rand"
	"slices"
	"strings"
	"testing"

	"roster/api"
)

const (
	u = api.Universal
	a = api.Application
	c = api.Context
	p = api.Private
)

func node(depth int, class api.Class, made bool, tag int, body string) api.Node {
	return api.Node{Depth: depth, Class: class, Made: made, Tag: tag, Body: body}
}

func elem(class api.Class, made bool, tag int, body string) api.Elem {
	return api.Elem{Class: class, Made: made, Tag: tag, Body: body}
}

// forAll calls f with every text of at most longest bytes, all of them out of letters.
func forAll(letters string, longest int, f func(s string)) {
	var grow func(front []byte)
	grow = func(front []byte) {
		f(string(front))
		if len(front) == longest {
			return
		}
		for i := 0; i < len(letters); i++ {
			grow(append(front, letters[i]))
		}
	}
	grow(make([]byte, 0, longest))
}

// nested is n made elements, each alone in the one ahead of it, the innermost holding inner.
func nested(n int, inner string) string {
	for range n {
		inner = "\x30" + shortest(len(inner)) + inner
	}
	return inner
}

// shortest is the chapter's shortest form of a length, word by word.
func shortest(n int) string {
	switch {
	case n < 128:
		return string([]byte{byte(n)})
	case n < 256:
		return string([]byte{0x81, byte(n)})
	case n < 65536:
		return string([]byte{0x82, byte(n / 256), byte(n)})
	case n < 16777216:
		return string([]byte{0x83, byte(n / 65536), byte(n / 256), byte(n)})
	}
	return string([]byte{0x84, byte(n / 16777216), byte(n / 65536), byte(n / 256), byte(n)})
}

// item is an element as the slow reader below tells it.
type item struct {
	place, depth int
	head         api.Header
}

// slowRule is the rule of reading, number by number; from is the number at which it begins, to the one at which it ends.
func slowRule(b string, place, end, depth int, missing api.Errno, from, to int) (h api.Header, err api.Errno, at int) {
	var none api.Header
	if from <= 1 && depth > 64 {
		return none, api.ErrDepth, place
	}
	b = b[:end]
	if place == end {
		return none, missing, end
	}
	if b[place]%32 == 31 {
		return none, api.ErrTag, place
	}
	if place+1 == end {
		return none, missing, end
	}
	h = api.Header{Class: api.Class(b[place] / 64), Made: b[place]/32%2 == 1, Tag: int(b[place] % 32), Size: 2}
	if l := b[place+1]; l == 0x80 {
		return none, api.ErrIndefinite, place + 1
	} else if l >= 0x85 {
		return none, api.ErrLength, place + 1
	} else if l < 0x80 {
		h.Length = int(l)
	} else {
		h.Size += int(l % 16)
		if place+h.Size > end {
			return none, missing, end
		}
		for _, x := range []byte(b[place+2 : place+h.Size]) {
			h.Length = h.Length*256 + int(x)
		}
	}
	if to >= 7 && place+h.Size+h.Length > end {
		return none, missing, end
	}
	return h, api.OK, 0
}

// slowItems is what P2.2 says of reading, with no panic and no iterator: the items read up to the first error, the error, its place.
func slowItems(b string) (items []item, err api.Errno, at int) {
	type whole struct{ end, depth int }
	open := []whole{{len(b), 1}}
	place := 0
	for first := true; first || len(open) > 1; first = false {
		last := open[len(open)-1]
		if !first && place == last.end {
			open = open[:len(open)-1]
			continue
		}
		missing := api.ErrOver
		if first {
			missing = api.ErrShort
		}
		h, err, at := slowRule(b, place, last.end, last.depth, missing, 1, 7)
		if err != api.OK {
			return items, err, at
		}
		items = append(items, item{place, last.depth, h})
		place += h.Size
		if h.Made {
			open = append(open, whole{place + h.Length, last.depth + 1})
		} else {
			place += h.Length
		}
	}
	if place < len(b) {
		return items, api.ErrTrail, place
	}
	return items, api.OK, 0
}

// slowTree is what Tree must answer.
func slowTree(b string) (nodes []api.Node, err api.Errno, at int) {
	items, err, at := slowItems(b)
	if err != api.OK {
		return nil, err, at
	}
	for _, x := range items {
		n := api.Node{Depth: x.depth, Class: x.head.Class, Made: x.head.Made, Tag: x.head.Tag}
		if !n.Made {
			n.Body = b[x.place+x.head.Size:][:x.head.Length]
		}
		nodes = append(nodes, n)
	}
	return nodes, api.OK, 0
}

// someTree is a tree of about n nodes.
func someTree(r *rand.Rand, n int) []api.Node {
	var nodes []api.Node
	for len(nodes) == 0 || len(nodes) < n {
		d := 1
		if len(nodes) > 0 {
			last := nodes[len(nodes)-1]
			most := last.Depth
			if last.Made && last.Depth < 64 {
				most++
			}
			if most < 2 {
				break
			}
			// Mostly deep, or the trees would all be flat.
			if d = most; r.Intn(3) == 0 {
				d = 2 + r.Intn(most-1)
			}
		}
		x := api.Node{Depth: d, Class: api.Class(r.Intn(4)), Made: r.Intn(3) > 0, Tag: r.Intn(31)}
		if !x.Made {
			x.Body = strings.Repeat(string(rune('a'+r.Intn(26))), []int{0, 1, 2, 127, 128, 255, 256, 300}[r.Intn(8)])
		}
		nodes = append(nodes, x)
	}
	return nodes
}

// someBytes is bytes that are elements as often as not.
func someBytes(r *rand.Rand) string {
	b, _, _ := Write(someTree(r, r.Intn(12)))
	if len(b) > 400 {
		b = b[:400]
	}
	out := []byte(b)
	for range r.Intn(3) {
		if len(out) > 0 {
			out[r.Intn(len(out))] = "\x00\x01\x02\x1f\x30\x80\x81\x84\x85\xff"[r.Intn(10)]
		}
	}
	if r.Intn(3) == 0 {
		out = append(out, 0)
	}
	return string(out[:len(out)-min(r.Intn(3), len(out))])
}

func sameNodes(t *testing.T, what, b string, got []api.Node, err api.Errno, at int, want []api.Node, wantErr api.Errno, wantAt int) {
	t.Helper()
	if !slices.Equal(got, want) || err != wantErr || at != wantAt {
		t.Fatalf("%s(%q) = %v, %d, %d; want %v, %d, %d", what, b, got, err, at, want, wantErr, wantAt)
	}
}
