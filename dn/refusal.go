package dn

import (
	"errors"
	"strconv"

	"roster/api"
)

// refusal is the error that a call answers: one of the sentinels, and the place that is told with it.
type refusal struct {
	reason error
	place  int
}

func (r refusal) Error() string {
	return r.reason.Error() + ", at " + strconv.Itoa(r.place)
}

func (r refusal) Unwrap() error { return r.reason }

// find is the refusal that err is or wraps.
func find(err error) (r refusal, found bool) {
	// An error of another's making may panic when it is asked what it wraps: then it tells of no refusal.
	defer func() {
		if recover() != nil {
			r, found = refusal{}, false
		}
	}()
	found = errors.As(err, &r)
	return r, found
}

// number is that of the sentinel.
func (r refusal) number() api.Errno {
	switch {
	case errors.Is(r, ErrLong):
		return api.ErrNameLong
	case errors.Is(r, ErrUTF8):
		return api.ErrNameUTF8
	case errors.Is(r, ErrType):
		return api.ErrNameType
	case errors.Is(r, ErrEquals):
		return api.ErrNameEquals
	case errors.Is(r, ErrEscape):
		return api.ErrNameEscape
	case errors.Is(r, ErrChar):
		return api.ErrNameChar
	case errors.Is(r, ErrHex):
		return api.ErrNameHex
	case errors.Is(r, ErrTwice):
		return api.ErrNameTwice
	case errors.Is(r, ErrWide):
		return api.ErrNameWide
	case errors.Is(r, ErrMade):
		return api.ErrNameMade
	}
	// A foreign error may say that it is a refusal and tell none.
	return api.ErrArg
}
