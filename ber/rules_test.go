package ber

import (
	"math/rand"
	"slices"
	"sync"
	"testing"

	"roster/api"
)

// P0.1, P2.9: no two answers share a list, spare room too.
func TestAnswersAreNew(t *testing.T) {
	b := nested(9, "\x04\x01a\x04\x01b")
	want, _, _ := slowTree(b)
	one, _, _ := Tree(b)
	two, _, _ := Tree(b)
	clear(one[:cap(one)])
	three, _, _ := Tree(b)
	if !slices.Equal(two, want) || !slices.Equal(three, want) {
		t.Error("two trees share memory")
	}
	body := "\x04\x01a\x04\x01b\x30\x00"
	first, _, _ := Split(body)
	second, _, _ := Split(body)
	keep := slices.Clone(second)
	clear(first[:cap(first)])
	if third, _, _ := Split(body); !slices.Equal(second, keep) || !slices.Equal(third, keep) {
		t.Error("two lists of elements share memory")
	}
}

// P0.1, P2.9: Write changes nothing that it is handed, spare room too, at trees and at what is none.
func TestWriteChangesNothing(t *testing.T) {
	r := rand.New(rand.NewSource(6))
	for i := range 500 {
		nodes := slices.Grow(someTree(r, 20), 5)
		if i%2 == 1 {
			nodes[r.Intn(len(nodes))].Depth = r.Intn(70) - 2
		}
		room := nodes[:cap(nodes)]
		before := slices.Clone(room)
		first, err, at := Write(nodes)
		if again, err2, at2 := Write(nodes); again != first || err2 != err || at2 != at {
			t.Fatalf("Write(%v) answers two things", nodes)
		}
		if !slices.Equal(room, before) {
			t.Fatalf("Write changed %v to %v", before, room)
		}
	}
}

// P0.1: nothing is kept from call to call, whoever calls at the same time.
func TestCallsAreAlone(t *testing.T) {
	texts := []string{"\x30\x03\x02\x01\x05", nested(65, ""), "\x30\x02\x1f\x00", nested(64, ""), "\x30\x00\x00"}
	var group sync.WaitGroup
	for i := range 8 {
		group.Go(func() {
			for j := range 200 {
				b := texts[(i+j)%len(texts)]
				want, wantErr, wantAt := slowTree(b)
				if got, err, at := Tree(b); !slices.Equal(got, want) || err != wantErr || at != wantAt {
					t.Errorf("Tree(%q) = %v, %d, %d", b, got, err, at)
				}
				if body, err, _ := Write(want); wantErr == api.OK && (body != b || err != api.OK) {
					t.Errorf("Write(%v) = %q, %d", want, body, err)
				}
			}
		})
	}
	group.Wait()
}
