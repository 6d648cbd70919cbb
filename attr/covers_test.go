package attr

import (
	"strings"
	"testing"
)

// P4.8
func TestCovers(t *testing.T) {
	for _, c := range []struct {
		d, e string
		want bool
	}{
		{"name", "CN;lang-de", true},
		{"cn;lang-de", "cn", false},
		{"cn", "name", false},
		{"2.5.4.41", "c-ou", true},
		{"foo", "FOO;x", true},
		{"cn", "cn;", false},
		{"cn;", "cn", false},
		{"cn;", "cn;", false},
		{"", "", false},
		{"", "cn", false},
		{"cn", "", false},
		{"name;x", "C-L;X;y", true},
		{"name;x;y", "C-L;Y", false},
		{"cn;a;A", "commonName;A", true},
		{"foo", "bar", false},
		{"objectClass", "foo", false},
		{"foo", "objectClass", false},
		{"objectClass", "cn", false},
		{"2.5.4", "2.5.4.3", false},
		{"l", "c-l", true},
		{"c-l", "l", false},
		{"st", "c-l", false},
		{"cn", "cn ", false},
		{"cn;x", "cn;x;;", false},
	} {
		if got := Covers(c.d, c.e); got != c.want {
			t.Errorf("Covers(%q, %q) = %v", c.d, c.e, got)
		}
	}
}

// P4.8: every type against every other, by one of its texts.
func TestCoversOfAllTypes(t *testing.T) {
	all := []string{"foo", "1.2.3", "FOO", "cn-", ""}
	for number, l := range table {
		texts := l.texts()
		all = append(all, texts[number%len(texts)])
	}
	for i, d := range all {
		for j, e := range all {
			if i%2 == 0 {
				e = strings.ToUpper(e)
			}
			got, want := Covers(d, e), slowCovers(d, e)
			if got != want {
				t.Fatalf("Covers(%q, %q) = %v", d, e, got)
			}
			if i == j && d != "" && !got {
				t.Fatalf("%q doesn't cover itself", d)
			}
		}
	}
}

// P4.8
func TestCoversOfOptions(t *testing.T) {
	var ends []string
	forAll(";aB", 5, func(s string) {
		if s == "" || s[0] == ';' {
			ends = append(ends, s)
		}
	})
	for _, d := range ends {
		for _, e := range ends {
			if got, want := Covers("name"+d, "sn"+e), slowCovers("name"+d, "sn"+e); got != want {
				t.Fatalf("Covers(%q, %q) = %v", "name"+d, "sn"+e, got)
			}
		}
	}
}
