package filter

import "roster/api"

// fault is what a reader gives up with by a panic, however deep it stands.
type fault struct {
	err api.Errno
	at  int
}

// caught runs read and answers the fault with which it gave up, or the zero fault.
func caught(read func()) (f fault) {
	defer func() { f = ended(recover()) }()
	read()
	return fault{}
}

// ended is the fault that was recovered, the zero fault if nothing was; a panic of any other kind goes on.
func ended(recovered any) fault {
	switch r := recovered.(type) {
	case nil:
		return fault{}
	case fault:
		return r
	default:
		panic(r)
	}
}

// refuse gives up at this place.
func refuse(at int) {
	panic(fault{api.ErrFilter, at})
}
