package msg

import (
	"syscall"
	"testing"
	"unsafe"

	"roster/api"
)

// manyZeros is n bytes 0 that take no room: the system gives out a page when it is written to.
func manyZeros(t *testing.T, n int) string {
	b, err := syscall.Mmap(-1, 0, n, syscall.PROT_READ, syscall.MAP_ANON|syscall.MAP_PRIVATE|syscall.MAP_NORESERVE)
	if err != nil {
		t.Skip("no room for so long a text: ", err)
	}
	t.Cleanup(func() { syscall.Munmap(b) })
	return unsafe.String(&b[0], n)
}

// P13.2, P13.3: a content of more bytes than a length can say is not written.
func TestBigContent(t *testing.T) {
	long := manyZeros(t, 1<<32)
	controls := []api.Control{{Value: long, HasValue: true}}
	for _, r := range []api.Request{
		{ID: 1, Kind: api.KindBind, Bind: api.Bind{Version: 3, Password: long}},
		{ID: 1, Kind: api.KindBind, Bind: api.Bind{Version: 3, Method: api.MethodSASL, Credentials: long, HasCredentials: true}},
		{ID: 1, Kind: api.KindSearch, Search: api.Search{Filter: api.Filter{{Depth: 1, Op: api.Equality, Value: long}}}},
		{ID: 1, Kind: api.KindModify, Changes: []api.Change{{Values: []string{long}}}},
		{ID: 1, Kind: api.KindAdd, Attributes: []api.Attr{{Values: []string{long}}}},
		{ID: 1, Kind: api.KindCompare, Value: long},
		{ID: 1, Kind: api.KindExtended, Value: long, HasValue: true},
		{ID: 1, Kind: api.KindUnbind, Controls: controls},
	} {
		if s, err := EncodeRequest(r); s != "" || err != api.ErrCraft {
			t.Errorf("a request of kind %d with 4294967296 bytes: %d bytes, %d", r.Kind, len(s), err)
		}
	}
	for _, p := range []api.Reply{
		{ID: 1, Kind: api.ReplyEntry, Attributes: []api.Attr{{Values: []string{long}}}},
		{ID: 1, Kind: api.ReplyDone, Controls: controls},
	} {
		if s, err := EncodeReply(p); s != "" || err != api.ErrCraft {
			t.Errorf("a reply of kind %d with 4294967296 bytes: %d bytes, %d", p.Kind, len(s), err)
		}
	}
}
