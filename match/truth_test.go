package match

import (
	"math/rand"
	"testing"

	"roster/api"
)

// P6.6, P6.7: the chapter's examples, and more of their kind.
func TestTruthExamples(t *testing.T) {
	for _, c := range []struct {
		s                      api.Syntax
		value, assertion       string
		equal, atLeast, atMost api.Truth
	}{
		{api.SynText, "Ada", " ADA ", api.True, api.True, api.True},
		{api.SynText, " ", "\t", api.True, api.True, api.True},
		{api.SynText, "", "a", api.False, api.False, api.False},
		{api.SynText, "a", "", api.Undefined, api.Undefined, api.Undefined},
		{api.SynText, "", "", api.Undefined, api.Undefined, api.Undefined},
		{api.SynText, "\xff", "\xff", api.Undefined, api.Undefined, api.Undefined},
		{api.SynInteger, "x", "5", api.False, api.False, api.False},
		{api.SynInteger, "5", "x", api.Undefined, api.Undefined, api.Undefined},
		{api.SynInteger, "x", "x", api.Undefined, api.Undefined, api.Undefined},
		{api.SynInteger, "10", "9", api.False, api.True, api.False},
		{api.SynInteger, "9", "10", api.False, api.False, api.True},
		{api.SynInteger, "9", "9", api.True, api.True, api.True},
		{api.SynIA5, "b", "a", api.False, api.Undefined, api.Undefined},
		{api.SynIA5, "b", "B", api.True, api.Undefined, api.Undefined},
		{api.SynIA5, "\x80", "B", api.False, api.Undefined, api.Undefined},
		{api.SynNumeric, "1 0", "9", api.False, api.False, api.True},
		{api.SynPhone, "1-2", "12", api.True, api.Undefined, api.Undefined},
		{api.SynBoolean, "TRUE", "FALSE", api.False, api.Undefined, api.Undefined},
		{api.SynOctet, "", "", api.True, api.True, api.True},
		{api.SynName, "CN=a,o=b", "cn=A, O=B", api.True, api.Undefined, api.Undefined},
		{api.SynOID, "cn", "commonName", api.False, api.Undefined, api.Undefined},
		{api.SynTime, "2024010112Z", "202401011300+0100", api.True, api.True, api.True},
		{api.SynList, "a$b", "A$B ", api.True, api.Undefined, api.Undefined},
		{api.SynBits, "'1'B", "'01'B", api.False, api.Undefined, api.Undefined},
		{api.SynNone, "a", "a", api.Undefined, api.Undefined, api.Undefined},
		{15, "a", "a", api.Undefined, api.Undefined, api.Undefined},
	} {
		e, l, m := Equal(c.s, c.value, c.assertion), AtLeast(c.s, c.value, c.assertion), AtMost(c.s, c.value, c.assertion)
		if e != c.equal || l != c.atLeast || m != c.atMost {
			t.Errorf("syntax %d, %q against %q: %d, %d, %d; want %d, %d, %d", c.s, c.value, c.assertion, e, l, m, c.equal, c.atLeast, c.atMost)
		}
		holdTruths(t, c.s, c.value, c.assertion)
	}
}

// P6.6, P6.7: every two of the samples, by every syntax.
func TestTruthsOfSamples(t *testing.T) {
	var all []string
	for _, row := range samples {
		all = append(all, row...)
	}
	for _, s := range allSyntaxes() {
		for _, value := range all {
			for _, assertion := range all {
				holdTruths(t, s, value, assertion)
			}
		}
	}
}

// P6.6, P6.7: values at random, near to one another.
func TestTruthsAtRandom(t *testing.T) {
	r := rand.New(rand.NewSource(68))
	for _, s := range allSyntaxes() {
		for range 5000 {
			value := someValue(r)
			at := r.Intn(len(value) + 1)
			holdTruths(t, s, value, pick(r, someValue(r), value[:at]+" "+value[at:], value[:at], lower(value)))
		}
	}
}
