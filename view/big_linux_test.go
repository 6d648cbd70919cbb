package view

import (
	"strings"
	"syscall"
	"testing"
	"unsafe"

	"roster/api"
)

// manyZeros is n bytes 0 that take no room: the system gives out a page when it is written to.
func manyZeros(t *testing.T, n int) string {
	b, err := syscall.Mmap(-1, 0, n, syscall.PROT_READ, syscall.MAP_ANON|syscall.MAP_PRIVATE|syscall.MAP_NORESERVE)
	if err != nil {
		t.Skip("no room for so long a text: ", err)
	}
	t.Cleanup(func() { syscall.Munmap(b) })
	return unsafe.String(&b[0], n)
}

// P22.10: a cookie of more bytes than a length can say is not written.
func TestBigCookie(t *testing.T) {
	long := manyZeros(t, 1<<32)
	holdEncodePage(t, 1, long, "", api.ErrView)
	// The cookie itself could be written, the sequence about it couldn't.
	holdEncodePage(t, 1, long[:1<<32-4], "", api.ErrView)
}

// P22.8: keys of more bytes than a length can say are not written.
func TestBigKeys(t *testing.T) {
	long := strings.Repeat("\U0010FFFF", 1<<22)
	keys := make([]api.SortKey, 1<<32/len(long))
	for i := range keys {
		keys[i].Desc = long
	}
	holdEncodeKeys(t, keys, "", api.ErrView)
}
