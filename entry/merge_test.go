package entry

import (
	"math/rand"
	"testing"

	"roster/api"
)

// P8.6: the chapter's example, and lists that share a canonical form.
func TestMerge(t *testing.T) {
	for _, c := range []struct{ a, b, want []api.Attr }{
		{[]api.Attr{at("cn", "cn", "Ann")}, []api.Attr{at("sn", "sn"), at("CommonName", "cn", "ANN", "Lee")}, []api.Attr{at("cn", "cn", "Ann", "Lee"), at("sn", "sn")}},
		{nil, nil, nil},
		{[]api.Attr{}, nil, nil},
		{nil, []api.Attr{at("cn", "cn")}, []api.Attr{at("cn", "cn")}},
		{[]api.Attr{at("cn", "cn")}, nil, []api.Attr{at("cn", "cn")}},
		{[]api.Attr{at("cn", "cn")}, []api.Attr{at("CN", "cn", "a")}, []api.Attr{at("cn", "cn", "a")}},
		{[]api.Attr{at("cn", "cn", "a")}, []api.Attr{at("CN", "cn")}, []api.Attr{at("cn", "cn", "a")}},
		{[]api.Attr{at("cn", "cn", "a", "A", "b"), at("CN", "cn", "c", "B")}, nil, []api.Attr{at("cn", "cn", "a", "b", "c")}},
		{nil, []api.Attr{at("x", "x", "a", "A", "a"), at("y", "y", "a"), at("x", "x", "b", "a")}, []api.Attr{at("x", "x", "a", "A", "b"), at("y", "y", "a")}},
		{[]api.Attr{at("b", "b", "1"), at("a", "a", "2")}, []api.Attr{at("c", "c", "3"), at("a", "a", "1")}, []api.Attr{at("b", "b", "1"), at("a", "a", "2", "1"), at("c", "c", "3")}},
		{[]api.Attr{at("mail", "mail", "\xff")}, []api.Attr{at("mail", "mail", "\xff", "\xfe", "a@B", "A@b")}, []api.Attr{at("mail", "mail", "\xff", "\xfe", "a@B")}},
	} {
		if got := Merge(c.a, c.b); !sameAttrs(got, c.want) {
			t.Errorf("Merge(%#v, %#v) = %#v, want %#v", c.a, c.b, got, c.want)
		}
		holdMerge(t, c.a, c.b)
	}
}

// P8.6: Canon is taken as it stands, and its description says which values are equal, not that of Desc.
func TestMergeTakesCanonAsItStands(t *testing.T) {
	for _, c := range []struct{ a, want []api.Attr }{
		{[]api.Attr{at("cn", "cn", "a"), at("cn", "CN", "A"), at("cn", "commonName", "a", "A")}, []api.Attr{at("cn", "cn", "a"), at("cn", "CN", "A"), at("cn", "commonName", "a")}},
		{[]api.Attr{at("cn", "x-odd", "a", "A", "a")}, []api.Attr{at("cn", "x-odd", "a", "A")}},
		{[]api.Attr{at("x-odd", "cn;x", "a", "A"), at("cn;x", "cn;x", " a")}, []api.Attr{at("x-odd", "cn;x", "a")}},
		{[]api.Attr{at("cn", "cn;", "a", "A", "a")}, []api.Attr{at("cn", "cn;", "a", "A")}},
		{[]api.Attr{at("cn", "", "a", "A", "a"), at("sn", "", "b", "a")}, []api.Attr{at("cn", "", "a", "A", "b")}},
		{[]api.Attr{at("cn", "\xff", "a", "A"), at("", "\xff")}, []api.Attr{at("cn", "\xff", "a", "A")}},
		{[]api.Attr{at("cn", "uidNumber", "7", "07", "7", "07")}, []api.Attr{at("cn", "uidNumber", "7", "07")}},
		{[]api.Attr{at("a", "cn;b;a", "x"), at("b", "cn;a;b", "x")}, []api.Attr{at("a", "cn;b;a", "x"), at("b", "cn;a;b", "x")}},
	} {
		for cut := range len(c.a) + 1 {
			if got := Merge(c.a[:cut], c.a[cut:]); !sameAttrs(got, c.want) {
				t.Errorf("Merge(%#v, %#v) = %#v, want %#v", c.a[:cut], c.a[cut:], got, c.want)
			}
		}
	}
}

// P8.6: of a list in order nothing is changed by nothing, nor by itself.
func TestMergeOfListsInOrder(t *testing.T) {
	r := rand.New(rand.NewSource(87))
	for range 2000 {
		e, err := Make(record(1, someName(r), somePairs(r, someDesc)...))
		if err != api.OK {
			continue
		}
		for _, got := range [][]api.Attr{Merge(e.Attrs, nil), Merge(nil, e.Attrs), Merge(e.Attrs, e.Attrs)} {
			if !sameAttrs(got, e.Attrs) {
				t.Fatalf("%#v becomes %#v", e.Attrs, got)
			}
		}
		other, err := Make(record(1, someName(r), somePairs(r, someDesc)...))
		if err == api.OK {
			holdOrder(t, Merge(e.Attrs, other.Attrs))
		}
	}
}

// P8.6
func TestMergeOfManyLists(t *testing.T) {
	r := rand.New(rand.NewSource(88))
	for range 8000 {
		holdMerge(t, someAttrs(r), someAttrs(r))
	}
}
