package match

import (
	"math/rand"
	"strings"
	"testing"

	"roster/api"
)

// P6.1: the chapter's examples, and more of their kind.
func TestNormalExamples(t *testing.T) {
	for _, c := range []struct {
		s     api.Syntax
		value string
		want  string
		ok    bool
	}{
		{api.SynText, "  Ada\t  LOVELACE ", "ada lovelace", true},
		{api.SynText, "", "", false},
		{api.SynText, "   ", "", true},
		{api.SynText, "\xff", "", false},
		{api.SynText, "\u00c9\u212a", "\u00c9\u212a", true},
		{api.SynExact, " Ada  L", "Ada L", true},
		{api.SynExact, "", "", false},
		{api.SynExact, "\t\n\v\f\r ", "", true},
		{api.SynExact, "\u00a0a\u2003", "\u00a0a\u2003", true},
		{api.SynIA5, "", "", true},
		{api.SynIA5, "\u00c4", "", false},
		{api.SynIA5, "A\x7f", "a\x7f", true},
		{api.SynIA5Exact, "A  b", "A b", true},
		{api.SynIA5Exact, "\x80", "", false},
		{api.SynNumeric, "12 34", "1234", true},
		{api.SynNumeric, " ", "", true},
		{api.SynNumeric, "", "", false},
		{api.SynNumeric, "1\t2", "", false},
		{api.SynPhone, "+1 (555) 01-02 X", "+1(555)0102x", true},
		{api.SynPhone, "a*b", "", false},
		{api.SynPhone, "", "", false},
		{api.SynPhone, " -", "", true},
		{api.SynInteger, "-0", "", false},
		{api.SynInteger, "007", "", false},
		{api.SynInteger, "", "", false},
		{api.SynInteger, "-", "", false},
		{api.SynInteger, "--1", "", false},
		{api.SynInteger, "-12", "-12", true},
		{api.SynBoolean, "true", "", false},
		{api.SynBoolean, "TRUE", "TRUE", true},
		{api.SynOctet, " \xff ", " \xff ", true},
		{api.SynName, "", "", true},
		{api.SynName, "SN=b+CN=A  b , O=x", "o=x,cn=a b+sn=b", true},
		{api.SynName, "cn=a,", "", false},
		{api.SynOID, "2.5.4.3", "2.5.4.3", true},
		{api.SynOID, "2", "", false},
		{api.SynOID, "2.05", "", false},
		{api.SynOID, "2.", "", false},
		{api.SynOID, "1a", "", false},
		{api.SynOID, "", "", false},
		{api.SynOID, "inetOrgPerson", "inetorgperson", true},
		// It is no attribute type here: its other name stays.
		{api.SynOID, "commonName", "commonname", true},
		{api.SynList, "1 High  St$Oslo", "1 high st$oslo", true},
		{api.SynList, `A\24\5CB$ `, `a\24\5cb$`, true},
		{api.SynList, `\5c24`, `\5c24`, true},
		{api.SynList, `\5C\24`, `\5c\24`, true},
		{api.SynList, "", "", false},
		{api.SynList, "a$$b", "", false},
		{api.SynList, "$a", "", false},
		{api.SynList, "a$", "", false},
		{api.SynList, `a\`, "", false},
		{api.SynList, `a\2`, "", false},
		{api.SynList, `a\2$4`, "", false},
		{api.SynList, `a\41`, "", false},
		{api.SynList, `a\2A`, "", false},
		{api.SynBits, "'0101'B", "'0101'B", true},
		{api.SynBits, "''B", "''B", true},
		{api.SynBits, "'012'B", "", false},
		{api.SynBits, "0101", "", false},
		{api.SynBits, "'01'b", "", false},
		{api.SynBits, "'B", "", false},
		{api.SynNone, "a", "", false},
		{api.SynNone, "", "", false},
		{15, "a", "", false},
		{-1, "", "", false},
	} {
		if got, ok := Normal(c.s, c.value); got != c.want || ok != c.ok {
			t.Errorf("Normal(%d, %q) = %q, %v; want %q, %v", c.s, c.value, got, ok, c.want, c.ok)
		}
		holdNormal(t, c.s, c.value)
	}
}

// P6.1: what is near to a value, by every byte at every place.
func TestNormalNearSamples(t *testing.T) {
	for s, values := range samples {
		for _, value := range values {
			if _, ok := Normal(api.Syntax(s), value); !ok {
				t.Errorf("Normal(%d, %q): not of the syntax", s, value)
			}
			forAllNear(value, func(near string) { holdNormal(t, api.Syntax(s), near) })
		}
	}
}

// P6.1: every short text of bytes that mean something to the syntax.
func TestNormalOfShortTexts(t *testing.T) {
	alphabets := []string{
		"a", "aZ \t\xc3\xa9", "aZ \t\xc3\xa9", "aZ \r\x80", "aZ \r\x80", "09 a-", "0aZ -*", "-019+ ", "TRUEFALS", "\x00 \xff",
		"cn=,a ", "a09.-", "0", "a $\\245Cc", "'01Bb",
	}
	for s, alphabet := range alphabets {
		forAll(alphabet, 5, func(value string) { holdNormal(t, api.Syntax(s), value) })
	}
}

// P6.1: every syntax, and every number that is none, at values of every other.
func TestNormalOfOthersValues(t *testing.T) {
	r := rand.New(rand.NewSource(61))
	for _, s := range allSyntaxes() {
		for _, values := range samples {
			for _, value := range values {
				holdNormal(t, s, value)
			}
		}
		for range 3000 {
			holdNormal(t, s, someValue(r))
		}
	}
}

// P6.1: a normal form is of the syntax again, unless blanks or signs were all there was, and is its own (but a name's, which begins at the root, and a time's, which has no zone).
func TestNormalOfNormal(t *testing.T) {
	r := rand.New(rand.NewSource(62))
	for _, s := range allSyntaxes() {
		for range 2000 {
			normal, ok := Normal(s, someValue(r))
			if !ok || normal == "" || s == api.SynName || s == api.SynList {
				continue
			}
			if s == api.SynTime {
				normal += "Z"
			}
			if again, ok := Normal(s, normal); !ok || again != strings.TrimSuffix(normal, "Z") && s == api.SynTime || again != normal && s != api.SynTime {
				t.Fatalf("Normal(%d, %q) = %q, %v", s, normal, again, ok)
			}
		}
	}
}

// P6.1: long values are read as short ones are.
func TestNormalOfLongValues(t *testing.T) {
	const many = 200000
	for _, c := range []struct {
		s     api.Syntax
		value string
		want  string
	}{
		{api.SynText, strings.Repeat("Ab \t", many), strings.Repeat("ab ", many-1) + "ab"},
		{api.SynInteger, "-1" + strings.Repeat("0", many), "-1" + strings.Repeat("0", many)},
		{api.SynNumeric, strings.Repeat("1 ", many), strings.Repeat("1", many)},
		{api.SynOID, "1" + strings.Repeat(".20", many), "1" + strings.Repeat(".20", many)},
		{api.SynList, strings.Repeat(`A\5C$`, many) + "b", strings.Repeat(`a\5c$`, many) + "b"},
		{api.SynBits, "'" + strings.Repeat("01", many) + "'B", "'" + strings.Repeat("01", many) + "'B"},
		{api.SynTime, "20240101000000." + strings.Repeat("0", many) + "10Z", "20240101000000." + strings.Repeat("0", many) + "1"},
	} {
		if got, ok := Normal(c.s, c.value); !ok || got != c.want {
			t.Errorf("Normal(%d, a long value) = %.40q.., %v", c.s, got, ok)
		}
	}
	if got, ok := Normal(api.SynName, "cn="+strings.Repeat("a", api.MaxName-2)); ok || got != "" {
		t.Errorf("a name that is too long is taken")
	}
}
