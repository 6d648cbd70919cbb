package dn

import (
	"errors"
	"fmt"
	"strings"
	"testing"

	"roster/api"
)

// told is an error, and what is to be told of it.
type told struct {
	err    error
	number api.Errno
	place  int
}

// someErrors are errors of each number, of each call that answers it.
func someErrors() []told {
	parse := func(s string) error { _, err := Parse(s); return err }
	keyOf := func(s string) error { _, err := KeyOf(s); return err }
	printed := func(d api.DN) error { _, err := Print(d); return err }
	key := func(d api.DN) error { _, err := Key(d); return err }
	partOf := func(r api.RDN) error { _, err := Part(r); return err }
	return []told{
		{parse(strings.Repeat("a", 5000)), 50, 4096}, {keyOf(strings.Repeat("a", 5000)), 50, 4096}, {printed(api.DN{one("cn", strings.Repeat("a", 5000))}), 50, 1},
		{parse("cn=a\xff"), 51, 4}, {keyOf("cn=\\ff"), 51, 3}, {printed(api.DN{one("cn", "\xff")}), 51, 0}, {key(api.DN{one("cn", ""), one("cn", "\xff")}), 51, 1}, {partOf(one("cn", "\xff")), 51, 0},
		{parse("cn=a,"), 52, 5}, {keyOf("  "), 52, 2},
		{parse("cn"), 53, 2}, {keyOf("cn;x=a"), 53, 2},
		{parse("cn=a\\"), 54, 4}, {keyOf("cn=a\\4x"), 54, 4},
		{parse("cn=a;"), 55, 4}, {keyOf("cn=#0400x"), 55, 8},
		{parse("cn=#"), 56, 3}, {keyOf("cn=#3000"), 56, 3},
		{parse("cn=a+CN=b"), 57, 5}, {printed(api.DN{part("cn", "a", "CN", "b")}), 57, 0}, {key(api.DN{one("o", ""), part("cn", "a", "CN", "b")}), 57, 1}, {partOf(part("cn", "a", "CN", "b")), 57, 0},
		{parse(strings.Repeat("a=b,", 64)), 58, 256}, {printed(long(65)), 58, 64}, {key(long(80)), 58, 64}, {printed(api.DN{one("o", ""), wide(9)}), 58, 1}, {partOf(make(api.RDN, 9)), 58, 0},
		{printed(api.DN{one("cn", ""), nil}), 59, 1}, {key(api.DN{one("cn", ""), one("o", ""), one("", "")}), 59, 2}, {partOf(nil), 59, 0},
	}
}

// carrier is an error around another one, as a caller may have its own.
type carrier struct {
	inner error
	more  []string // so that it can't be compared
}

func (c carrier) Error() string { return "carried" }
func (c carrier) Unwrap() error { return c.inner }

// P5.2, and the section Errors: errors.Is finds its own sentinel alone.
func TestFault(t *testing.T) {
	for _, c := range someErrors() {
		holdError(t, c.err, c.number, c.place, "the error itself")
		holdError(t, fmt.Errorf("so: %w", c.err), c.number, c.place, "wrapped")
		holdError(t, &carrier{inner: carrier{inner: fmt.Errorf("%w", c.err)}}, c.number, c.place, "wrapped three times")
		holdError(t, errors.Join(errors.New("another"), c.err), c.number, c.place, "joined")
		if c.err.Error() == "" {
			t.Errorf("an error of %d says nothing", c.number)
		}
	}
}

// P5.2
func TestFaultOfNoError(t *testing.T) {
	if number, place := Fault(nil); number != api.OK || place != 0 {
		t.Errorf("Fault(nil) = %d, %d", number, place)
	}
	_, err := Parse("cn=a")
	if number, place := Fault(err); number != api.OK || place != 0 {
		t.Errorf("Fault of no refusal = %d, %d", number, place)
	}
}

// spiteful is an error that can't be asked what it wraps.
type spiteful struct{ inner error }

func (s *spiteful) Error() string { return s.inner.Error() }
func (s *spiteful) Unwrap() error { return s.inner }

// liar says of itself that it is any error that is asked for.
type liar struct{}

func (liar) Error() string { return "" }
func (liar) As(any) bool   { return true }
func (liar) Is(error) bool { return true }

// P5.2, P0.1: errors that no call of the package answered, a bare sentinel too.
func TestFaultOfOtherErrors(t *testing.T) {
	var others []error
	for _, r := range reasons() {
		others = append(others, r.sentinel, carrier{inner: r.sentinel}, fmt.Errorf("cn: %w", r.sentinel), errors.Join(r.sentinel), errors.New(r.sentinel.Error()))
	}
	others = append(others, errors.New("other"), carrier{}, &carrier{}, (*spiteful)(nil), carrier{inner: (*spiteful)(nil)}, liar{}, carrier{inner: liar{}}, errors.Join(errors.New("a"), liar{}))
	for _, err := range others {
		if number, place := Fault(err); number != api.ErrArg || place != 0 {
			t.Errorf("Fault(%T) = %d, %d; want ErrArg, 0", err, number, place)
		}
	}
}

// P5.2, P0.1: two answers to one text are told alike, and of two texts each keeps its own place.
func TestFaultOfTwoErrors(t *testing.T) {
	_, near := Parse("cn=;")
	_, far := Parse("cn=aaaa;")
	_, again := Parse("cn=;")
	holdError(t, near, api.ErrNameChar, 3, "the first")
	holdError(t, far, api.ErrNameChar, 7, "the second")
	holdError(t, again, api.ErrNameChar, 3, "the third")
}
