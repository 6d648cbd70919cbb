package msg

// givenUp is what a reader or a writer panics with, however deep it stands; only that it did is told outside.
type givenUp struct{}

// refuse gives up what is being read or written.
func refuse() {
	panic(givenUp{})
}

// done runs work and tells whether it came to its end.
func done(work func()) (ok bool) {
	defer func() { ok = ended(recover()) }()
	work()
	return true
}

// ended tells whether nothing was recovered; a panic of any other kind than ours goes on.
func ended(recovered any) bool {
	switch r := recovered.(type) {
	case nil:
		return true
	case givenUp:
		return false
	default:
		panic(r)
	}
}
