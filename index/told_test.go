package index

import (
	"slices"
	"strconv"
	"testing"

	"roster/api"
)

// P11.3: the chapter's example.
func TestSizeAndDescs(t *testing.T) {
	x := Build(four())
	if x.Size() != 4 {
		t.Errorf("Size() = %d", x.Size())
	}
	holdTexts(t, "Descs()", x.Descs(), []string{"cn", "cn;lang-de", "sn", "uidnumber", "x-odd"})
}

// P11.3: every entry counts, one without an attribute too; a Canon counts if one value at least stands beneath it somewhere.
func TestSizeAndDescsOfOddEntries(t *testing.T) {
	for _, c := range []struct {
		entries []api.Entry
		descs   []string
	}{
		{nil, nil},
		{[]api.Entry{}, nil},
		{[]api.Entry{{}, {}, {}}, nil},
		{[]api.Entry{with(at("cn"))}, nil},
		{[]api.Entry{with(at("cn")), with(at("cn", "")), with(at("sn"))}, []string{"cn"}},
		{[]api.Entry{with(at("cn"), at("cn", "a"))}, []string{"cn"}},
		{[]api.Entry{with(at("sn", "a"), at("cn", "a")), with(at("cn", "b")), {}}, []string{"cn", "sn"}},
		// Canon as it stands, whatever the Desc; sorted as bytes.
		{[]api.Entry{with(at("b", "x"), at("B", "x"), at("", "x"), at("\xff", "x"), at("a;", "x"), at("a", "x"), at("cn ", "x"))}, []string{"", "B", "a", "a;", "b", "cn ", "\xff"}},
		{[]api.Entry{with(api.Attr{Desc: "sn", Canon: "cn", Values: []string{"x"}})}, []string{"cn"}},
		{[]api.Entry{with(api.Attr{Desc: "sn", Values: []string{"x"}})}, []string{""}},
		{[]api.Entry{{Name: "cn=a", Key: []string{"cn=a"}, Line: 3}}, nil},
	} {
		x := Build(c.entries)
		if x.Size() != len(c.entries) {
			t.Errorf("Size() = %d, want %d", x.Size(), len(c.entries))
		}
		holdTexts(t, "Descs()", x.Descs(), c.descs)
		holdIndex(t, c.entries)
	}
}

// P11.4: the chapter's example.
func TestTermsOfTheFour(t *testing.T) {
	x := Build(four())
	holdTerms(t, x, "cn", term{"ann lee", []int{0, 1}})
	holdTerms(t, x, "cn;lang-de", term{"anna", []int{3}})
	holdTerms(t, x, "sn", term{"lee", []int{1}})
	for _, canon := range []string{"CN", "x-odd", "uidnumber", "name", "commonname", "", "9", "cn;", "cn;lang-de;", "no-such"} {
		holdTerms(t, x, canon)
	}
}

// P11.4: rising as bytes, the empty normal form too; an entry once beneath a term, whatever values or attributes give it.
func TestTerms(t *testing.T) {
	x := Build([]api.Entry{
		with(at("cn", "b", "B", " b ", "a"), at("cn", "b", "  ")),
		with(at("cn")),
		with(at("sn", "b"), at("CN", "b", "Z")),
		with(at("cn", "\xff", "", "ab", "a\x01", "\xc3\xa9"), at("uidnumber", "10", "9", "-1", "09", "+1")),
		with(at("uidnumber", "9"), at("cn", "a")),
	})
	holdTerms(t, x, "cn", term{"", []int{0}}, term{"a", []int{0, 4}}, term{"a\x01", []int{3}}, term{"ab", []int{3}}, term{"b", []int{0}}, term{"\xc3\xa9", []int{3}})
	holdTerms(t, x, "CN", term{"b", []int{2}}, term{"z", []int{2}})
	holdTerms(t, x, "sn", term{"b", []int{2}})
	holdTerms(t, x, "uidnumber", term{"-1", []int{3}}, term{"10", []int{3}}, term{"9", []int{3, 4}})
}

// steps is an index with many terms, and what Terms gives of it.
func steps(count int) (*Index, []term) {
	var entries []api.Entry
	var want []term
	for i := range count {
		entries = append(entries, with(at("cn", strconv.Itoa(1000+i)+" X")), with(at("cn", strconv.Itoa(1000+i)+" x")))
		want = append(want, term{strconv.Itoa(1000+i) + " x", []int{2 * i, 2*i + 1}})
	}
	return Build(entries), want
}

// P11.4: stopped behind each term, and ranged over again, each time from the beginning.
func TestTermsStopped(t *testing.T) {
	x, want := steps(12)
	terms := x.Terms("cn")
	for most := 1; most <= len(want); most++ {
		var got []term
		for normal, numbers := range terms {
			got = append(got, term{normal, numbers})
			if len(got) == most {
				break
			}
		}
		if !slices.EqualFunc(got, want[:most], sameTerm) {
			t.Fatalf("stopped behind %d it gives %v", most, got)
		}
	}
	holdTerms(t, x, "cn", want...)
}

// P11.4: nothing is given behind the term at which it was stopped.
func TestTermsStayStopped(t *testing.T) {
	x, want := steps(5)
	for most := range want {
		calls := 0
		x.Terms("cn")(func(string, []int) bool {
			calls++
			return calls <= most
		})
		if calls != most+1 {
			t.Errorf("stopped behind %d it gave %d", most+1, calls)
		}
	}
}

// P11.4, P0.1: ranged over inside a ranging over it, each goes by itself.
func TestTermsWithinTerms(t *testing.T) {
	x, want := steps(4)
	terms := x.Terms("cn")
	var outer []term
	for normal, numbers := range terms {
		outer = append(outer, term{normal, numbers})
		var inner []term
		for normal, numbers := range terms {
			inner = append(inner, term{normal, slices.Clone(numbers)})
			clear(numbers)
		}
		if !slices.EqualFunc(inner, want, sameTerm) {
			t.Fatalf("inside it gives %v", inner)
		}
	}
	if !slices.EqualFunc(outer, want, sameTerm) {
		t.Fatalf("outside it gives %v", outer)
	}
}
