package ber

import (
	"syscall"
	"testing"
	"unsafe"

	"roster/api"
)

// manyZeros is n bytes 0 that take no room: the system gives out a page when it is written to.
func manyZeros(t *testing.T, n int) string {
	b, err := syscall.Mmap(-1, 0, n, syscall.PROT_READ, syscall.MAP_ANON|syscall.MAP_PRIVATE|syscall.MAP_NORESERVE)
	if err != nil {
		t.Skip("no room for so long a text: ", err)
	}
	t.Cleanup(func() { syscall.Munmap(b) })
	return unsafe.String(&b[0], n)
}

// P2.3, P2.5: one content of more than 4294967295 bytes; an element that can't be written is told ahead of it.
func TestBigContent(t *testing.T) {
	body := manyZeros(t, 1<<32)
	if b, err := Join(api.Elem{Tag: 4, Body: body}); b != "" || err != api.ErrBig {
		t.Errorf("Join of 4294967296 bytes: %d bytes, %d", len(b), err)
	}
	if b, err := Join(api.Elem{Tag: 31, Body: body}); b != "" || err != api.ErrNode {
		t.Errorf("Join of 4294967296 bytes under the tag 31: %d bytes, %d", len(b), err)
	}
	if b, err, at := Write([]api.Node{{Depth: 1, Tag: 4, Body: body}}); b != "" || err != api.ErrBig || at != 0 {
		t.Errorf("Write of 4294967296 bytes: %d bytes, %d, %d", len(b), err, at)
	}
	if tooLong(len(body) - 1) {
		t.Error("4294967295 bytes are too long")
	}
}
