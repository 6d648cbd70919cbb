package entry

import (
	"math/rand"
	"slices"
	"testing"

	"roster/api"
)

// P8.2: the chapter's example, and records refused in a list.
func TestGather(t *testing.T) {
	good, name, desc := record(3, "o=x", "o", "x"), record(7, "cn", "9", "x"), record(9, "o=y", "9", "x")
	for _, c := range []struct {
		records []api.Record
		want    api.Errno
		line    int
	}{
		{nil, api.OK, 0},
		{[]api.Record{}, api.OK, 0},
		{[]api.Record{good}, api.OK, 0},
		{[]api.Record{good, good, ann()}, api.OK, 0},
		{[]api.Record{good, name}, api.ErrName, 7},
		{[]api.Record{name, good}, api.ErrName, 7},
		{[]api.Record{good, name, desc}, api.ErrName, 7},
		{[]api.Record{good, desc, name}, api.ErrDesc, 9},
		{[]api.Record{desc}, api.ErrDesc, 9},
		{[]api.Record{good, good, good, record(-5, ",")}, api.ErrName, -5},
		{[]api.Record{record(0, ",")}, api.ErrName, 0},
	} {
		entries, err, line := Gather(c.records)
		if err != c.want || line != c.line {
			t.Errorf("Gather(%#v): %d, %d, want %d, %d", c.records, err, line, c.want, c.line)
		}
		holdGather(t, c.records, entries, err)
	}
}

// holdGather holds the entries to what Make makes one by one; none beside an error.
func holdGather(t *testing.T, records []api.Record, entries []api.Entry, err api.Errno) {
	t.Helper()
	var want []api.Entry
	if err == api.OK {
		for _, r := range records {
			want = append(want, made(t, r))
		}
	}
	if !slices.EqualFunc(entries, want, sameEntry) {
		t.Errorf("Gather(%#v) = %#v, want %#v", records, entries, want)
	}
}

// P8.2
func TestGatherOfManyLists(t *testing.T) {
	r := rand.New(rand.NewSource(82))
	for range 1000 {
		var records []api.Record
		want, line := api.OK, 0
		for i := range r.Intn(6) {
			one := record(10+i, someName(r), somePairs(r, someDesc)...)
			records = append(records, one)
			if _, err := slowMake(one); err != api.OK && want == api.OK {
				want, line = err, one.Line
			}
		}
		entries, err, at := Gather(records)
		if err != want || at != line {
			t.Fatalf("Gather(%#v): %d, %d, want %d, %d", records, err, at, want, line)
		}
		holdGather(t, records, entries, err)
	}
}

// P8.3: a pair for each value of each attribute, in their order; the spellings are the attributes' own.
func TestBack(t *testing.T) {
	for _, c := range []struct {
		e    api.Entry
		want api.Record
	}{
		{api.Entry{}, api.Record{}},
		{made(t, ann()), record(1, "cn=Ann,o=x", "objectClass", "person", "CN", "Ann", "CN", "Lee")},
		{made(t, record(4, "cn=Ann", "sn", "Lee")), record(4, "cn=Ann", "sn", "Lee", "cn", "Ann")},
		{having(at("cn", "cn")), record(-3, "no name")},
		{having(at("a", "b"), at("", "cn", "x", "x"), at("*", ""), at("cn", "", "")), record(-3, "no name", "", "x", "", "x", "cn", "")},
	} {
		if got := Back(c.e); !sameRecord(got, c.want) {
			t.Errorf("Back(%#v) = %#v, want %#v", c.e, got, c.want)
		}
		holdBack(t, c.e)
	}
}

// P8.3: of entries that no Make made, too.
func TestBackOfManyEntries(t *testing.T) {
	r := rand.New(rand.NewSource(83))
	for range 3000 {
		holdBack(t, having(someAttrs(r)...))
	}
}
