package patch

import "roster/api"

// refusal is what a change that can't be done gives up with.
type refusal struct {
	err api.Errno
}

func refuse(err api.Errno) {
	panic(refusal{err})
}

// caught runs work and answers the error with which it gave up, or OK.
func caught(work func()) (err api.Errno) {
	defer func() { err = ended(recover()) }()
	work()
	return api.OK
}

// ended is the error that was recovered, OK if nothing was; a panic of any other kind goes on.
func ended(recovered any) api.Errno {
	switch r := recovered.(type) {
	case nil:
		return api.OK
	case refusal:
		return r.err
	}
	panic(recovered)
}
