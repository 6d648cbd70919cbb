package filter

import (
	"syscall"
	"testing"
	"unsafe"

	"roster/api"
)

// manyZeros is n bytes 0 that take no room: the system gives out a page when it is written to.
func manyZeros(t *testing.T, n int) string {
	b, err := syscall.Mmap(-1, 0, n, syscall.PROT_READ, syscall.MAP_ANON|syscall.MAP_PRIVATE|syscall.MAP_NORESERVE)
	if err != nil {
		t.Skip("no room for so long a text: ", err)
	}
	t.Cleanup(func() { syscall.Munmap(b) })
	return unsafe.String(&b[0], n)
}

// P12.5: a content of more than 4294967295 bytes; what is nested too deep, or no filter, is told ahead of it.
func TestBigContent(t *testing.T) {
	long := manyZeros(t, 1<<32)
	for _, n := range []api.FilterNode{eq(1, "a", long), ext(1, "a", "", long, false), sub(1, "a", long, nil, ""), sub(1, "a", "", []string{long[1:]}, "")} {
		if b, err := Encode(list(n)); b != "" || err != api.ErrBig {
			t.Errorf("an item of kind %d with 4294967296 bytes: %d bytes, %d", n.Op, len(b), err)
		}
		n.Depth = 64
		if b, err := Encode(append(chain(api.And, 63), n)); b != "" || err != api.ErrDeep {
			t.Errorf("the same at the depth 64: %d bytes, %d", len(b), err)
		}
		n.DNAttrs, n.Op = true, api.Equality
		if b, err := Encode(list(n)); b != "" || err != api.ErrFilter {
			t.Errorf("the same, that is no filter: %d bytes, %d", len(b), err)
		}
	}
}
